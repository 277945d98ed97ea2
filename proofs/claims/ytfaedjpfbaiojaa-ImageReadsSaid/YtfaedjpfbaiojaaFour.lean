/-
  Plain mathematics of bytes as words: four bytes each; what is written is read, what is read is written. No program is named here.
-/
import Derived.Test.YtfaedjpfbaiojaaPack
import Derived.Laws.BitsAllLaws
namespace Go.Proofs.Ytfaedjpfbaiojaa

/-- The word of four bytes, the lowest first. -/
def fw (a b c d : UInt8) : Int := ((a.toNat + 256 * b.toNat + 65536 * c.toNat + 16777216 * d.toNat : Nat) : Int)
theorem fw_bd (a b c d : UInt8) : 0 ≤ fw a b c d ∧ fw a b c d < 4294967296 := by
  have := a.toNat_lt
  have := b.toNat_lt
  have := c.toNat_lt
  have := d.toNat_lt
  unfold fw; omega
/-- The words of bytes, four each. -/
def wordsR : List UInt8 → List Int
  | a :: b :: c :: d :: l => fw a b c d :: wordsR l
  | _ => []
/-- The word of a number. -/
def wAt (l : List UInt8) (k : Nat) : Int := fw (l.getD (4 * k) 0) (l.getD (4 * k + 1) 0) (l.getD (4 * k + 2) 0) (l.getD (4 * k + 3) 0)
theorem wordsR_length : ∀ l : List UInt8, (wordsR l).length = l.length / 4
  | [] => by simp [wordsR]
  | [_] => by simp [wordsR]
  | [_, _] => by simp [wordsR]
  | [_, _, _] => by simp [wordsR]
  | a :: b :: c :: d :: l => by
    have := wordsR_length l
    simp only [wordsR, List.length_cons, this]
    omega
theorem wordsR_at : ∀ (l : List UInt8) (k : Nat), k < l.length / 4 → (wordsR l)[k]? = some (wAt l k)
  | [], k, h => absurd h (by simp)
  | [_], k, h => absurd h (by simp)
  | [_, _], k, h => absurd h (by simp)
  | [_, _, _], k, h => absurd h (by simp)
  | a :: b :: c :: d :: l, 0, _ => rfl
  | a :: b :: c :: d :: l, k + 1, h => by
    have hk : k < l.length / 4 := by simp only [List.length_cons] at h; omega
    have ih := wordsR_at l k hk
    rw [wordsR, List.getElem?_cons_succ, ih]
    unfold wAt
    rw [show 4 * (k + 1) = 4 * k + 4 by omega, show 4 * k + 4 + 1 = (4 * k + 1) + 4 by omega, show 4 * k + 4 + 2 = (4 * k + 2) + 4 by omega, show 4 * k + 4 + 3 = (4 * k + 3) + 4 by omega]
    rfl
theorem wordsR_take (l : List UInt8) (k : Nat) (h : k < l.length / 4) : (wordsR l).take (k + 1) = (wordsR l).take k ++ [wAt l k] := by
  have hl : k < (wordsR l).length := by rw [wordsR_length]; exact h
  rw [List.take_succ_eq_append_getElem hl]
  have := wordsR_at l k h
  rw [List.getElem?_eq_getElem hl] at this
  rw [Option.some.inj this]
theorem wordsR_bd : ∀ (l : List UInt8) (x : Int), x ∈ wordsR l → 0 ≤ x ∧ x < 4294967296
  | [], x, h => by simp [wordsR] at h
  | [_], x, h => by simp [wordsR] at h
  | [_, _], x, h => by simp [wordsR] at h
  | [_, _, _], x, h => by simp [wordsR] at h
  | a :: b :: c :: d :: l, x, h => by
    rw [wordsR, List.mem_cons] at h
    rcases h with rfl | h
    · exact fw_bd a b c d
    · exact wordsR_bd l x h
theorem w4_four (x : Int) : w4 x = [byteN x.toNat 0, byteN x.toNat 1, byteN x.toNat 2, byteN x.toNat 3] := by
  simp [w4, w4n]
theorem byteN_nat (x j : Nat) : (byteN x j).toNat = x / 256 ^ j % 256 := by
  unfold byteN
  rw [UInt8.toNat_ofNat']; exact Nat.mod_eq_of_lt (by omega)
theorem fw_w4 (x : Int) (h : 0 ≤ x) (h' : x < 4294967296) : fw (byteN x.toNat 0) (byteN x.toNat 1) (byteN x.toNat 2) (byteN x.toNat 3) = x := by
  unfold fw
  rw [byteN_nat, byteN_nat, byteN_nat, byteN_nat]
  omega
theorem byte_eq {a : UInt8} {n : Nat} (h : n = a.toNat) : UInt8.ofNat n = a := by rw [h]; exact UInt8.ofNat_toNat
theorem w4_fw (a b c d : UInt8) : w4 (fw a b c d) = [a, b, c, d] := by
  have := a.toNat_lt
  have := b.toNat_lt
  have := c.toNat_lt
  have := d.toNat_lt
  have e : (fw a b c d).toNat = a.toNat + 256 * b.toNat + 65536 * c.toNat + 16777216 * d.toNat := by unfold fw; omega
  rw [w4_four, e]
  unfold byteN
  rw [byte_eq (a := a) (by omega), byte_eq (a := b) (by omega), byte_eq (a := c) (by omega), byte_eq (a := d) (by omega)]
/-- What is read is written as it was. -/
theorem wbytes_wordsR : ∀ l : List UInt8, l.length % 4 = 0 → wbytes (wordsR l) = l
  | [], _ => rfl
  | [_], h => absurd h (by simp)
  | [_, _], h => absurd h (by simp)
  | [_, _, _], h => absurd h (by simp)
  | a :: b :: c :: d :: l, h => by
    have ih := wbytes_wordsR l (by simp only [List.length_cons] at h; omega)
    rw [wordsR, wbytes_cons, ih, w4_fw]
    rfl
/-- What is written is read as it was. -/
theorem wordsR_wbytes (xs : List Int) (h : ∀ x ∈ xs, 0 ≤ x ∧ x < 4294967296) : wordsR (wbytes xs) = xs := by
  induction xs with
  | nil => rfl
  | cons x xs ih =>
    have hx := h x (by simp)
    rw [wbytes_cons, w4_four]
    show wordsR (byteN x.toNat 0 :: byteN x.toNat 1 :: byteN x.toNat 2 :: byteN x.toNat 3 :: wbytes xs) = x :: xs
    rw [wordsR, fw_w4 x hx.1 hx.2, ih (fun y hy => h y (by simp [hy]))]

/-! Rows of words. -/
def rowU (n : Nat) (f : Nat → Int) : List Value := (List.range n).map fun t => Value.int .u32 (f t)
theorem rowU_length (n : Nat) (f : Nat → Int) : (rowU n f).length = n := by simp [rowU]
theorem rowU_at (n : Nat) (f : Nat → Int) (j : Nat) (h : j < n) : (rowU n f)[j]? = some (.int .u32 (f j)) := by
  simp [rowU, List.getElem?_map, List.getElem?_range h]
theorem rowU_congr (n : Nat) (f g : Nat → Int) (h : ∀ t, t < n → f t = g t) : rowU n f = rowU n g := by
  unfold rowU
  apply List.map_congr_left
  intro t ht
  rw [h t (List.mem_range.mp ht)]
theorem rowU_set (n : Nat) (f : Nat → Int) (j : Nat) (v : Int) : (rowU n f).set j (.int .u32 v) = rowU n (fun t => if t = j then v else f t) := by
  apply List.ext_getElem?
  intro t
  rw [List.getElem?_set]
  by_cases ht : t < n
  · rw [rowU_at n _ t ht]
    by_cases hj : j = t
    · subst hj; rw [if_pos rfl, if_pos (by rw [rowU_length]; exact ht), rowU_at n _ j ht, if_pos rfl]
    · have : ¬ t = j := fun q => hj q.symm
      rw [if_neg hj, rowU_at n _ t ht, if_neg this]
  · have e1 : (rowU n f)[t]? = none := List.getElem?_eq_none (by rw [rowU_length]; omega)
    have e2 : (rowU n (fun t => if t = j then v else f t))[t]? = none := List.getElem?_eq_none (by rw [rowU_length]; omega)
    rw [e1, e2]
    by_cases hj : j = t
    · subst hj; simp [rowU_length, ht]
    · simp [hj]
/-- What is left of the first j words done, the others 0. -/
def doneF (f : Nat → Int) (j t : Nat) : Int := if t < j then f t else 0
theorem doneF_step (n : Nat) (f : Nat → Int) (j : Nat) : (rowU n (doneF f j)).set j (.int .u32 (f j)) = rowU n (doneF f (j + 1)) := by
  rw [rowU_set]
  apply rowU_congr
  intro t _
  unfold doneF
  by_cases h : t = j
  · subst h; simp
  · by_cases h2 : t < j
    · rw [if_neg h, if_pos h2, if_pos (by omega)]
    · rw [if_neg h, if_neg h2, if_neg (by omega)]
theorem rowU_words (l : List UInt8) (n : Nat) (h : l.length / 4 = n) : rowU n (doneF (wAt l) n) = (wordsR l).map (Value.int .u32) := by
  apply List.ext_getElem?
  intro t
  rw [List.getElem?_map]
  by_cases ht : t < n
  · rw [rowU_at n _ t ht, wordsR_at l t (by omega)]
    simp [doneF, ht]
  · rw [List.getElem?_eq_none (by rw [rowU_length]; omega), List.getElem?_eq_none (by rw [wordsR_length]; omega)]
    rfl
theorem wAt_drop (l : List UInt8) (k : Nat) : wAt (l.drop (4 * k)) 0 = wAt l k := by
  unfold wAt
  simp only [List.getD, List.getElem?_drop, Nat.mul_zero, Nat.zero_add, Nat.add_zero]

/-! What 'or' makes of four bytes at their places. -/
theorem join_lo (i y x : Nat) (hi : i ≤ 32) (hy : y < 2 ^ i) (hx : x % 2 ^ i = 0) (hx' : x < 4294967296) : bits .or .u32 (y : Int) (x : Int) = ((y + x : Nat) : Int) := by
  have hle : 2 ^ i ≤ 4294967296 := by
    have : 2 ^ i ≤ 2 ^ 32 := Nat.pow_le_pow_right (by decide) hi
    exact this
  have h1 := (bits_nat .u32 32 (by decide) wraps_u32 y x (by omega) (by omega)).2
  rw [h1, Nat.or_comm]
  have hq : x = 2 ^ i * (x / 2 ^ i) := by
    have := Nat.div_add_mod x (2 ^ i)
    omega
  have h2 : x ||| y = x + y := by
    rw [hq, ← Nat.two_pow_add_eq_or_of_lt hy (x / 2 ^ i)]
  rw [h2, Nat.add_comm]
theorem or_four (a b c d : UInt8) :
    bits .or .u32 (bits .or .u32 (bits .or .u32 ((a.toNat : Int) % 4294967296) ((b.toNat : Int) % 4294967296 * 256 % 4294967296)) ((c.toNat : Int) % 4294967296 * 65536 % 4294967296)) ((d.toNat : Int) % 4294967296 * 16777216 % 4294967296) = fw a b c d := by
  have ha := a.toNat_lt
  have hb := b.toNat_lt
  have hc := c.toNat_lt
  have hd := d.toNat_lt
  have e0 : (a.toNat : Int) % 4294967296 = (a.toNat : Nat) := by omega
  have e1 : (b.toNat : Int) % 4294967296 * 256 % 4294967296 = ((256 * b.toNat : Nat) : Int) := by omega
  have e2 : (c.toNat : Int) % 4294967296 * 65536 % 4294967296 = ((65536 * c.toNat : Nat) : Int) := by omega
  have e3 : (d.toNat : Int) % 4294967296 * 16777216 % 4294967296 = ((16777216 * d.toNat : Nat) : Int) := by omega
  rw [e0, e1, e2, e3, join_lo 8 a.toNat (256 * b.toNat) (by omega) (by omega) (by omega) (by omega), join_lo 16 _ (65536 * c.toNat) (by omega) (by omega) (by omega) (by omega),
    join_lo 24 _ (16777216 * d.toNat) (by omega) (by omega) (by omega) (by omega)]
  rfl
end Go.Proofs.Ytfaedjpfbaiojaa
