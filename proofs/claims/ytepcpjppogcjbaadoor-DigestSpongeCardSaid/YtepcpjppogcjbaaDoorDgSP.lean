/-
  Plain mathematics of four bytes put into each word of a block; and the bytes of a number behind the padding.
-/
import Derived.Test.YtepcpjppogcjbaaDoorDgI
namespace Go.Proofs.YtepcpjppogcjbaaDoor
open Go.RowKit

/-- The first r bytes of the word q of the block that begins at o. -/
def wv (l : List UInt8) (o q : Nat) : Nat → Nat
  | 0 => 0
  | r + 1 => wv l o q r + (l.getD (o + (4 * q + r)) 0).toNat * 256 ^ r
theorem wv_lt (l : List UInt8) (o q r : Nat) : wv l o q r < 256 ^ r := by
  induction r with
  | zero => show 0 < 1; decide
  | succ r ih =>
    have hb := (l.getD (o + (4 * q + r)) 0).toNat_lt
    rw [wv, Nat.pow_succ]
    have h1 : (l.getD (o + (4 * q + r)) 0).toNat * 256 ^ r ≤ 255 * 256 ^ r := Nat.mul_le_mul_right _ (by omega)
    omega
/-- The words of a block, so many bytes in. -/
def ldL (l : List UInt8) (o k : Nat) : List Int := [(wv l o 0 (min 4 (k - 0)) : Nat), (wv l o 1 (min 4 (k - 4)) : Nat), (wv l o 2 (min 4 (k - 8)) : Nat), (wv l o 3 (min 4 (k - 12)) : Nat)]
theorem ldL_len (l : List UInt8) (o k : Nat) : (ldL l o k).length = 4 := rfl
theorem ldL_zero (l : List UInt8) (o : Nat) : ldL l o 0 = [0, 0, 0, 0] := rfl
theorem ldL_at (l : List UInt8) (o : Nat) {k : Nat} (h : k < 16) : (ldL l o k).getD (k / 4) 0 = ((wv l o (k / 4) (k % 4) : Nat) : Int) := by
  match k, h with
  | 0, _ => rfl
  | 1, _ => rfl
  | 2, _ => rfl
  | 3, _ => rfl
  | 4, _ => rfl
  | 5, _ => rfl
  | 6, _ => rfl
  | 7, _ => rfl
  | 8, _ => rfl
  | 9, _ => rfl
  | 10, _ => rfl
  | 11, _ => rfl
  | 12, _ => rfl
  | 13, _ => rfl
  | 14, _ => rfl
  | 15, _ => rfl
  | n + 16, h => exact absurd h (by omega)
theorem ldL_next (l : List UInt8) (o : Nat) {k : Nat} (h : k < 16) : (ldL l o k).set (k / 4) ((wv l o (k / 4) (k % 4 + 1) : Nat) : Int) = ldL l o (k + 1) := by
  match k, h with
  | 0, _ => rfl
  | 1, _ => rfl
  | 2, _ => rfl
  | 3, _ => rfl
  | 4, _ => rfl
  | 5, _ => rfl
  | 6, _ => rfl
  | 7, _ => rfl
  | 8, _ => rfl
  | 9, _ => rfl
  | 10, _ => rfl
  | 11, _ => rfl
  | 12, _ => rfl
  | 13, _ => rfl
  | 14, _ => rfl
  | 15, _ => rfl
  | n + 16, h => exact absurd h (by omega)
theorem wv_four (l : List UInt8) (o q : Nat) : ((wv l o q 4 : Nat) : Int) = wAt (l.drop o) q := by
  simp only [wv, wAt, fw, List.getD, List.getElem?_drop, Nat.add_zero]
  omega
theorem ldL_full (l : List UInt8) (o : Nat) : ldL l o 16 = (four (l.drop o)).toL := by
  show [((wv l o 0 4 : Nat) : Int), ((wv l o 1 4 : Nat) : Int), ((wv l o 2 4 : Nat) : Int), ((wv l o 3 4 : Nat) : Int)] = _
  rw [wv_four, wv_four, wv_four, wv_four]; rfl
/-- One byte more, at its place. -/
theorem or_wv (l : List UInt8) (o q r : Nat) (hr : r < 4) (c : Nat) (hc : c < 256) (he : (l.getD (o + (4 * q + r)) 0).toNat = c) : bits .or .u32 ((wv l o q r : Nat) : Int) ((c * 256 ^ r : Nat) : Int) = ((wv l o q (r + 1) : Nat) : Int) := by
  have h1 := wv_lt l o q r
  have h2 : (256 : Nat) ^ r = 2 ^ (8 * r) := by rw [show (256 : Nat) = 2 ^ 8 from rfl, ← Nat.pow_mul]
  have h3 : c * 256 ^ r < 4294967296 := by
    have q0 : (256 : Nat) ^ 0 = 1 := by decide
    have q1 : (256 : Nat) ^ 1 = 256 := by decide
    have q2 : (256 : Nat) ^ 2 = 65536 := by decide
    have q3 : (256 : Nat) ^ 3 = 16777216 := by decide
    have hq : 256 ^ r ≤ 16777216 := by
      rcases (show r = 0 ∨ r = 1 ∨ r = 2 ∨ r = 3 by omega) with e | e | e | e <;> rw [e] <;> omega
    have := Nat.mul_le_mul_left c hq
    omega
  rw [join_lo (8 * r) _ _ (by omega) (by rw [← h2]; exact h1) (by rw [← h2]; exact Nat.mul_mod_left _ _) h3, wv, he]
theorem wv_word (l : List UInt8) (o q r : Nat) (hr : r ≤ 4) : isW ((wv l o q r : Nat) : Int) := by
  have h := wv_lt l o q r
  have h2 : (256 : Nat) ^ r ≤ 256 ^ 4 := Nat.pow_le_pow_right (by decide) hr
  have h3 : (256 : Nat) ^ 4 = 4294967296 := by decide
  unfold isW
  omega
/-- Words of a block of sixteen bytes, and those behind it. -/
theorem words_block (l : List UInt8) (o : Nat) (h : o + 16 ≤ l.length) : wordsR (l.drop o) = (four (l.drop o)).d0 :: (four (l.drop o)).d1 :: (four (l.drop o)).d2 :: (four (l.drop o)).d3 :: wordsR (l.drop (o + 16)) := by
  have e : l.drop o = (l.drop o).take 16 ++ l.drop (o + 16) := by
    rw [← List.drop_drop, List.take_append_drop]
  have hl : ((l.drop o).take 16).length = 16 := by rw [List.length_take, List.length_drop]; omega
  have hw := words16 hl
  have hf : four ((l.drop o).take 16) = four (l.drop o) := by
    simp [four, wAt, List.getD]
  conv => lhs; rw [e]
  rw [wordsR_append _ _ (by rw [hl]), hw, hf]
  rfl
/-- The bytes of a small number as two words. -/
theorem num_bytes (n : Nat) (h : n < 65536) (c0 c1 : UInt8) (h0 : (n : Int) % 256 = (c0.toNat : Int)) (h1 : (n : Int) / 256 = (c1.toNat : Int)) : wbytes [(n : Int), 0] = [c0, c1, 0, 0, 0, 0, 0, 0] := by
  have e0 : byteN n 0 = c0 := by
    apply UInt8.toNat_inj.mp
    rw [byteN_nat]; simp only [show (256 : Nat) ^ 0 = 1 from rfl]; omega
  have e1 : byteN n 1 = c1 := by
    apply UInt8.toNat_inj.mp
    rw [byteN_nat]; simp only [show (256 : Nat) ^ 1 = 256 from rfl]; omega
  have e2 : byteN n 2 = 0 := by
    apply UInt8.toNat_inj.mp
    rw [byteN_nat]; simp only [show (256 : Nat) ^ 2 = 65536 from rfl]; show n / 65536 % 256 = 0; omega
  have e3 : byteN n 3 = 0 := by
    apply UInt8.toNat_inj.mp
    rw [byteN_nat]; simp only [show (256 : Nat) ^ 3 = 16777216 from rfl]; show n / 16777216 % 256 = 0; omega
  rw [wbytes_cons, wbytes_cons, wbytes_nil, w4_four, w4_four, Int.toNat_natCast, e0, e1, e2, e3]
  rfl
/-- All the bytes. -/
def allB (l : List UInt8) : List UInt8 := l ++ padB l.length ++ wbytes [(l.length : Int), 0]
theorem allB_len (l : List UInt8) : (allB l).length = l.length + (padN l.length + 1) + 8 := by
  rw [allB, List.length_append, List.length_append, padB_len, wbytes_length]; rfl
theorem allB_words (l : List UInt8) (h : l.length < 4294967296) : wordsR (allB l) = allWs l := by
  have hp := pad_mod l.length
  rw [allB, wordsR_append _ _ (by rw [List.length_append, padB_len]; omega), wordsR_wbytes]
  · rfl
  · intro x hx
    simp at hx
    rcases hx with rfl | rfl
    · omega
    · exact ⟨by decide, by decide⟩
end Go.Proofs.YtepcpjppogcjbaaDoor
