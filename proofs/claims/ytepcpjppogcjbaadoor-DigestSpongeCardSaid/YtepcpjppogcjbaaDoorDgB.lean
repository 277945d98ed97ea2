/-
  Plain mathematics of blocks taken in, one behind the other: what stands behind the bytes; the digest of bytes. No program is named here.
-/
import Derived.Test.YtepcpjppogcjbaaDoorDgX
import Derived.Test.YtepcpjppogcjbaaDoorFour
namespace Go.Proofs.YtepcpjppogcjbaaDoor
open Go.RowKit

/-- Blocks of four words, taken in one behind the other by any step. -/
def absorbG (f : S8 → D4 → S8) : S8 → List Int → S8
  | s, a :: b :: c :: d :: r => absorbG f (f s ⟨a, b, c, d⟩) r
  | s, _ => s
theorem absorbG_four (f : S8 → D4 → S8) (s : S8) (a b c d : Int) (r : List Int) : absorbG f s (a :: b :: c :: d :: r) = absorbG f (f s ⟨a, b, c, d⟩) r := by rw [absorbG]
theorem absorbG_nil (f : S8 → D4 → S8) (s : S8) : absorbG f s [] = s := by simp [absorbG]
theorem absorbG_append (f : S8 → D4 → S8) (xs ys : List Int) (s : S8) (h : xs.length % 4 = 0) : absorbG f s (xs ++ ys) = absorbG f (absorbG f s xs) ys := by
  match xs, h with
  | [], _ => rw [List.nil_append, absorbG_nil]
  | [_], h => simp at h
  | [_, _], h => simp at h
  | [_, _, _], h => simp at h
  | a :: b :: c :: d :: r, h =>
    rw [List.cons_append, List.cons_append, List.cons_append, List.cons_append, absorbG_four, absorbG_four, absorbG_append f r ys _ (by simp at h; omega)]
theorem absorbG_ok (f : S8 → D4 → S8) (hf : ∀ s d, s.ok → d.ok → (f s d).ok) (xs : List Int) (s : S8) (hs : s.ok) (hx : ∀ x ∈ xs, isW x) (h : xs.length % 4 = 0) : (absorbG f s xs).ok := by
  match xs, hx, h with
  | [], _, _ => rw [absorbG_nil]; exact hs
  | [_], _, h => simp at h
  | [_, _], _, h => simp at h
  | [_, _, _], _, h => simp at h
  | a :: b :: c :: d :: r, hx, h =>
    rw [absorbG_four]
    exact absorbG_ok f hf r _ (hf _ _ hs ⟨hx a (by simp), hx b (by simp), hx c (by simp), hx d (by simp)⟩) (fun x h => hx x (by simp [h])) (by simp at h; omega)
def absorb (s : S8) (xs : List Int) : S8 := absorbG takeS s xs
theorem absorb_nil (s : S8) : absorb s [] = s := absorbG_nil takeS s
theorem absorb_four (s : S8) (d : D4) (r : List Int) : absorb s (d.d0 :: d.d1 :: d.d2 :: d.d3 :: r) = absorb (takeS s d) r := absorbG_four takeS s d.d0 d.d1 d.d2 d.d3 r
theorem absorb_append (xs ys : List Int) (s : S8) (h : xs.length % 4 = 0) : absorb s (xs ++ ys) = absorb (absorb s xs) ys := absorbG_append takeS xs ys s h
theorem absorb_ok (xs : List Int) (s : S8) (hs : s.ok) (hx : ∀ x ∈ xs, isW x) (h : xs.length % 4 = 0) : (absorb s xs).ok := absorbG_ok takeS (fun _ _ => takeS_ok) xs s hs hx h
theorem wordsR_append (u v : List UInt8) (h : u.length % 4 = 0) : wordsR (u ++ v) = wordsR u ++ wordsR v := by
  match u, h with
  | [], _ => simp [wordsR]
  | [_], h => simp at h
  | [_, _], h => simp at h
  | [_, _, _], h => simp at h
  | a :: b :: c :: d :: r, h =>
    rw [List.cons_append, List.cons_append, List.cons_append, List.cons_append, wordsR, wordsR, wordsR_append r v (by simp at h; omega), List.cons_append]
/-- What stands behind n bytes ahead of their number: one byte 128, noughts. -/
def padN (n : Nat) : Nat := (23 - n % 16) % 16
def padB (n : Nat) : List UInt8 := 128 :: List.replicate (padN n) 0
theorem padB_len (n : Nat) : (padB n).length = padN n + 1 := by simp [padB]
theorem pad_mod (n : Nat) : (n + (padN n + 1)) % 16 = 8 := by unfold padN; omega
theorem padN_lt (n : Nat) : padN n < 16 := by unfold padN; omega
def oneS : S8 := ⟨1, 0, 0, 0, 0, 0, 0, 0⟩
theorem oneS_ok : oneS.ok := by simp [S8.ok, oneS, isW]
/-- The words of bytes, with what stands behind them; their digest. -/
def allWs (l : List UInt8) : List Int := wordsR (l ++ padB l.length) ++ [(l.length : Int), 0]
def ofD (l : List UInt8) : D4 := frontS (absorb oneS (allWs l))
theorem wordsR_ok (l : List UInt8) : ∀ x ∈ wordsR l, isW x := fun x hx => wordsR_bd l x hx
theorem allWs_ok (l : List UInt8) (h : l.length < 4294967296) : ∀ x ∈ allWs l, isW x := by
  intro x hx
  rw [allWs, List.mem_append] at hx
  rcases hx with hx | hx
  · exact wordsR_ok _ x hx
  · simp at hx
    rcases hx with rfl | rfl
    · unfold isW; omega
    · exact ⟨by decide, by decide⟩
theorem ofD_ok (l : List UInt8) (h : l.length < 4294967296) : (ofD l).ok := frontS_ok (absorb_ok _ _ oneS_ok (allWs_ok l h) (by
    have := pad_mod l.length
    rw [allWs, List.length_append, wordsR_length, List.length_append, padB_len]; show ((l.length + (padN l.length + 1)) / 4 + 2) % 4 = 0; omega))
/-- The code takes the whole blocks first, then the rest with what stands behind. -/
theorem ofD_code (l : List UInt8) (m : Nat) (h : l.length < 4294967296) (hm : m = l.length - l.length % 16) :
    absorb (absorb oneS (wordsR (l.take m))) (wordsR (l.drop m ++ (padB l.length ++ wbytes [(l.length : Int), 0]))) = absorb oneS (allWs l) := by
  have hml : m ≤ l.length := by omega
  have ht : (l.take m).length = m := by rw [List.length_take]; omega
  have hd : (l.drop m).length = l.length - m := List.length_drop
  have hp := pad_mod l.length
  have h4 : m % 4 = 0 := by omega
  rw [← absorb_append _ _ _ (by rw [wordsR_length, ht]; omega), ← wordsR_append _ _ (by rw [ht]; exact h4), ← List.append_assoc, List.take_append_drop, ← List.append_assoc, wordsR_append _ _ (by rw [List.length_append, padB_len]; omega), wordsR_wbytes]
  · rfl
  · intro x hx
    simp at hx
    rcases hx with rfl | rfl
    · omega
    · exact ⟨by decide, by decide⟩
end Go.Proofs.YtepcpjppogcjbaaDoor
