/-
  Plain mathematics of bits, one by one: a word's bits, what a list of them makes, what both of two words' bits make. No program is named here.
-/
import Derived.Test.YtojgngefgianpaaDoorPlain
namespace Go.Proofs.YtojgngefgianpaaDoor

/-- A word's bit of a number. -/
def bitF (x t : Nat) : Int := ((x / 2 ^ t % 2 : Nat) : Int)
theorem bitF_bd (x t : Nat) : 0 ≤ bitF x t ∧ bitF x t ≤ 1 := by unfold bitF; omega
/-- A row of 32 numbers, by a function. -/
def rowF (n : Nat) (f : Nat → Int) : List Value := (List.range n).map fun t => Value.int .i64 (f t)
theorem rowF_length (n : Nat) (f : Nat → Int) : (rowF n f).length = n := by simp [rowF]
theorem rowF_at (n : Nat) (f : Nat → Int) (j : Nat) (h : j < n) : (rowF n f)[j]? = some (.int .i64 (f j)) := by
  simp [rowF, List.getElem?_map, List.getElem?_range h]
theorem rowF_snoc (n : Nat) (f : Nat → Int) : rowF (n + 1) f = rowF n f ++ [.int .i64 (f n)] := by
  simp [rowF, List.range_succ]
theorem rowF_congr (n : Nat) (f g : Nat → Int) (h : ∀ t, t < n → f t = g t) : rowF n f = rowF n g := by
  unfold rowF
  apply List.map_congr_left
  intro t ht
  rw [h t (List.mem_range.mp ht)]
theorem rowF_set (n : Nat) (f : Nat → Int) (j : Nat) (v : Int) : (rowF n f).set j (.int .i64 v) = rowF n (fun t => if t = j then v else f t) := by
  apply List.ext_getElem?
  intro t
  rw [List.getElem?_set]
  by_cases ht : t < n
  · rw [rowF_at n _ t ht]
    by_cases hj : j = t
    · subst hj; rw [if_pos rfl, if_pos (by rw [rowF_length]; exact ht), rowF_at n _ j ht, if_pos rfl]
    · have : ¬ t = j := fun q => hj q.symm
      rw [if_neg hj, rowF_at n _ t ht, if_neg this]
  · have e1 : (rowF n f)[t]? = none := List.getElem?_eq_none (by rw [rowF_length]; omega)
    have e2 : (rowF n (fun t => if t = j then v else f t))[t]? = none := List.getElem?_eq_none (by rw [rowF_length]; omega)
    rw [e1, e2]
    by_cases hj : j = t
    · subst hj; simp [rowF_length, ht]
    · simp [hj]
/-- What is left of the first j numbers done, the others as they were. -/
def mixF (r f : Nat → Int) (j t : Nat) : Int := if t < j then r t else f t
theorem mixF_zero (r f : Nat → Int) : rowF 32 (mixF r f 0) = rowF 32 f := rowF_congr _ _ _ fun t _ => by simp [mixF]
theorem mixF_full (r f : Nat → Int) : rowF 32 (mixF r f 32) = rowF 32 r := rowF_congr _ _ _ fun t ht => by simp [mixF, ht]
theorem mixF_step (r f : Nat → Int) (j : Nat) : (rowF 32 (mixF r f j)).set j (.int .i64 (r j)) = rowF 32 (mixF r f (j + 1)) := by
  rw [rowF_set]
  apply rowF_congr
  intro t _
  unfold mixF
  by_cases h : t = j
  · subst h; simp
  · by_cases h2 : t < j
    · rw [if_neg h, if_pos h2, if_pos (by omega)]
    · rw [if_neg h, if_neg h2, if_neg (by omega)]
theorem mixF_two (r f : Nat → Int) (j : Nat) (v : Int) : ((rowF 32 (mixF r f j)).set j (.int .i64 v)).set j (.int .i64 (r j)) = rowF 32 (mixF r f (j + 1)) := by
  rw [List.set_set, mixF_step]
theorem mixF_here (r f : Nat → Int) (j : Nat) : mixF r f j j = f j := by simp [mixF]

/-- What an operation makes of two bits. -/
def res (op : Int) (x y t : Nat) : Int :=
  if op = 9 then bitF (x &&& y) t else if op = 10 then bitF (x ||| y) t else bitF (x ^^^ y) t
theorem bit_test (x t : Nat) : x / 2 ^ t % 2 = if x.testBit t then 1 else 0 := by
  rw [Nat.testBit_eq_decide_div_mod_eq]
  have : x / 2 ^ t % 2 = 0 ∨ x / 2 ^ t % 2 = 1 := by omega
  rcases this with h | h <;> simp [h]
theorem res_9 (x y t : Nat) : res 9 x y t = if bitF x t + bitF y t = 2 then 1 else 0 := by
  simp only [res, bitF, if_true, bit_test, Nat.testBit_and]
  cases x.testBit t <;> cases y.testBit t <;> decide
theorem res_10 (x y t : Nat) : res 10 x y t = if bitF x t + bitF y t = 0 then 0 else 1 := by
  have h : ¬ ((10 : Int) = 9) := by decide
  simp only [res, bitF, if_neg h, if_true, bit_test, Nat.testBit_or]
  cases x.testBit t <;> cases y.testBit t <;> decide
theorem res_11 (x y t : Nat) : res 11 x y t = if bitF x t + bitF y t = 1 then 1 else 0 := by
  have h : ¬ ((11 : Int) = 9) := by decide
  have h' : ¬ ((11 : Int) = 10) := by decide
  simp only [res, bitF, if_neg h, if_neg h', bit_test, Nat.testBit_xor]
  cases x.testBit t <;> cases y.testBit t <;> decide
/-- The word that an operation makes, of its bits. -/
def resW (op : Int) (x y : Nat) : Nat := if op = 9 then x &&& y else if op = 10 then x ||| y else x ^^^ y
theorem res_bitF (op : Int) (x y t : Nat) : res op x y t = bitF (resW op x y) t := by
  unfold res resW
  by_cases h : op = 9
  · rw [if_pos h, if_pos h]
  · by_cases h' : op = 10
    · rw [if_neg h, if_neg h, if_pos h', if_pos h']
    · rw [if_neg h, if_neg h, if_neg h', if_neg h']
theorem resW_lt (op : Int) (x y : Nat) (hx : x < 4294967296) (hy : y < 4294967296) : resW op x y < 4294967296 := by
  have h1 := Nat.and_lt_two_pow (n := 32) x hy
  have h2 := Nat.or_lt_two_pow (n := 32) hx hy
  have h3 := Nat.xor_lt_two_pow (n := 32) hx hy
  unfold resW
  split
  · exact h1
  · split
    · exact h2
    · exact h3
theorem resW_app (op : Int) (x y : Nat) (hx : x < 4294967296) (hy : y < 4294967296) (h : op = 9 ∨ op = 10 ∨ op = 11) : ((resW op x y : Nat) : Int) = app op x y := by
  have n1 := (bits_nat .u32 32 (by decide) wraps_u32 x y hx hy).1
  have n2 := (bits_nat .u32 32 (by decide) wraps_u32 x y hx hy).2
  have n3 := bits_xor_nat x y hx hy
  rcases h with rfl | rfl | rfl
  · show _ = bits .and .u32 (x : Int) (y : Int); rw [n1]; rfl
  · show _ = bits .or .u32 (x : Int) (y : Int); rw [n2]; rfl
  · show _ = bits .xor .u32 (x : Int) (y : Int); rw [n3]; rfl
theorem shl_step (a : Int) (j : Nat) : 2 * (a * 2 ^ j % 4294967296) % 4294967296 = a * 2 ^ (j + 1) % 4294967296 := by
  rw [Int.pow_succ, ← Int.mul_assoc]
  generalize a * 2 ^ j = z
  omega
theorem shr_step (a : Int) (j : Nat) (h : 0 ≤ a) : a / 2 ^ j / 2 = a / 2 ^ (j + 1) := by
  obtain ⟨m, rfl⟩ := Int.eq_ofNat_of_zero_le h
  have e : m / 2 ^ j / 2 = m / 2 ^ (j + 1) := by rw [Nat.div_div_eq_div_mul, Nat.pow_succ]
  have e' : ((m / 2 ^ j / 2 : Nat) : Int) = ((m / 2 ^ (j + 1) : Nat) : Int) := by rw [e]
  simpa using e'
theorem div2_step (x j : Nat) : 2 * (x / 2 ^ (j + 1)) + x / 2 ^ j % 2 = x / 2 ^ j := by
  rw [Nat.pow_succ, ← Nat.div_div_eq_div_mul]; omega
theorem div2_next (x j : Nat) : x / 2 ^ j / 2 = x / 2 ^ (j + 1) := by rw [Nat.pow_succ, Nat.div_div_eq_div_mul]
end Go.Proofs.YtojgngefgianpaaDoor
