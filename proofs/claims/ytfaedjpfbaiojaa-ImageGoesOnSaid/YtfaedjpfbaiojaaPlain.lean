/-
  Plain mathematics of words: what the operations make of two words, as functions of integers; their laws. No program is named here.
-/
import Derived.Laws.BitsLemmas
import Derived.Lib.Strings
namespace Go.Proofs.Ytfaedjpfbaiojaa

/-- What an operation makes of two words. -/
def app (op a b : Int) : Int :=
  if op = 4 then (a + b) % 4294967296
  else if op = 5 then (a - b) % 4294967296
  else if op = 6 then (a * b) % 4294967296
  else if op = 7 then a / b
  else if op = 8 then (if b = 0 then 0 else a % b)
  else if op = 9 then bits .and .u32 a b
  else if op = 10 then bits .or .u32 a b
  else if op = 11 then bits .xor .u32 a b
  else if op = 12 then a * 2 ^ min b.toNat 32 % 4294967296
  else if op = 13 then a / 2 ^ min b.toNat 32
  else if op = 14 then (if a < b then 1 else 0)
  else if op = 15 then (if a = b then 1 else 0)
  else 0
/-- The error beside it. -/
def appE (op b : Int) : Int :=
  if op < 4 ∨ 15 < op then 1 else if (op = 7 ∨ op = 8) ∧ b = 0 then 14 else 0

theorem wraps_u32 (n : Int) (h₀ : 0 ≤ n) (h₁ : n < 2 ^ 32) : IntKind.u32.wrap n = n := by rw [IntKind.wrap_u32]; omega

theorem bits_xor_nat (a b : Nat) (ha : a < 2 ^ 32) (hb : b < 2 ^ 32) : bits .xor .u32 a b = ((a ^^^ b : Nat) : Int) := by
  have hp : (2 ^ 32 : Nat) = 2 ^ IntKind.u32.bits := rfl
  have ha' : a % 2 ^ IntKind.u32.bits = a := Nat.mod_eq_of_lt (by rw [← hp]; exact ha)
  have hb' : b % 2 ^ IntKind.u32.bits = b := Nat.mod_eq_of_lt (by rw [← hp]; exact hb)
  simp only [bits, BitVec.ofInt_natCast, BitVec.toNat_xor, BitVec.toNat_ofNat, ha', hb']
  have := Nat.xor_lt_two_pow ha hb
  exact wraps_u32 _ (Int.natCast_nonneg _) (by exact_mod_cast this)

theorem xor_small (a b : Int) (ha : 0 ≤ a) (ha' : a < 4294967296) (hb : 0 ≤ b) (hb' : b < 4294967296) :
    (0 ≤ bits .xor .u32 a b ∧ (bits .xor .u32 a b = 0 → a = b)) ∧ (a = b → bits .xor .u32 a b = 0) := by
  obtain ⟨x, rfl⟩ := Int.eq_ofNat_of_zero_le ha
  obtain ⟨y, rfl⟩ := Int.eq_ofNat_of_zero_le hb
  rw [bits_xor_nat x y (by omega) (by omega)]
  refine ⟨⟨Int.natCast_nonneg _, fun h => ?_⟩, fun h => ?_⟩
  · have h' : x ^^^ y = 0 := by exact_mod_cast h
    have : x = y := by have q := congrArg (· ^^^ y) h'; simpa [Nat.xor_assoc] using q
    rw [this]
  · have h' : x = y := by exact_mod_cast h
    subst h'
    simp

/-- Is a byte a decimal digit? -/
def digB (c : UInt8) : Bool := decide (48 ≤ c.toNat) && decide (c.toNat ≤ 57)
/-- Are all of them digits? -/
def allD (l : List UInt8) : Bool := l.all digB
/-- Is a text a number's: digits alone, one at least, the first one of several not 0? -/
def numB (l : List UInt8) : Bool := !l.isEmpty && !(decide (l.head? = some 48) && decide (1 < l.length)) && allD l
theorem digB_true {c : UInt8} (h₀ : 48 ≤ (c.toNat : Int)) (h₁ : (c.toNat : Int) ≤ 57) : digB c = true := by simp [digB]; omega
theorem digB_lo {c : UInt8} (h : (c.toNat : Int) < 48) : digB c = false := by simp [digB]; omega
theorem digB_hi {c : UInt8} (h : 57 < (c.toNat : Int)) : digB c = false := by simp [digB]; omega
theorem digB_iff {c : UInt8} : digB c = true ↔ 48 ≤ c.toNat ∧ c.toNat ≤ 57 := by simp [digB]
theorem take_snoc (s : ByteArray) (k : Nat) (h : k < s.size) : s.data.toList.take (k + 1) = s.data.toList.take k ++ [s[k]] := by
  rw [List.take_succ_eq_append_getElem (by simpa using h)]; rfl
theorem all_snoc (s : ByteArray) (k : Nat) (h : k < s.size) : allD (s.data.toList.take (k + 1)) = (allD (s.data.toList.take k) && digB s[k]) := by
  unfold allD
  rw [take_snoc s k h, List.all_append]; simp
theorem all_of_take (l : List UInt8) (k : Nat) (h : allD (l.take k) = false) : allD l = false := by
  unfold allD at h ⊢
  rw [← List.take_append_drop k l, List.all_append, h, Bool.false_and]
theorem len_toList (s : ByteArray) : s.data.toList.length = s.size := by rw [Array.length_toList]; rfl
theorem numB_none (s : ByteArray) (h : s.size = 0) : numB s.data.toList = false := by
  have : s.data.toList = [] := List.length_eq_zero_iff.mp (by rw [len_toList]; exact h)
  simp [numB, this]
theorem head_some (s : ByteArray) (h : 0 < s.size) : s.data.toList.head? = some s[0] := by
  rw [List.head?_eq_getElem?, List.getElem?_eq_getElem (by rw [len_toList]; exact h)]; rfl
theorem numB_zero (s : ByteArray) (h : 1 < s.size) (hc : s[0].toNat = 48) : numB s.data.toList = false := by
  have e : s[0] = 48 := UInt8.toNat_inj.mp (by rw [hc]; rfl)
  simp [numB, head_some s (by omega), e, h]
theorem numB_rest (s : ByteArray) (h : 0 < s.size) (hc : s[0].toNat ≠ 48 ∨ s.size = 1) : numB s.data.toList = allD s.data.toList := by
  have e0 : s.data.toList.isEmpty = false := by
    rw [Bool.eq_false_iff]; intro q; rw [List.isEmpty_iff] at q
    have := len_toList s; rw [q] at this; simp at this; omega
  have e1 : (decide (s.data.toList.head? = some 48) && decide (1 < s.data.toList.length)) = false := by
    rw [head_some s h, len_toList]
    rcases hc with hc | hc
    · have : s[0] ≠ 48 := fun q => hc (by rw [q]; rfl)
      simp [this]
    · simp [hc]
  unfold numB
  rw [e0, e1]; simp
theorem isEmpty_no (s : ByteArray) (h : 0 < s.size) : s.toList.isEmpty = false := by
  rw [Bool.eq_false_iff]; intro q; rw [List.isEmpty_iff] at q
  have e : s.toList = s.data.toList := Lib.toList_data s
  rw [e] at q
  have := len_toList s; rw [q] at this; simp at this; omega
theorem isEmpty_yes (s : ByteArray) (h : s.size = 0) : s.toList = [] := by
  have e : s.toList = s.data.toList := Lib.toList_data s
  rw [e]; exact List.length_eq_zero_iff.mp (by rw [len_toList]; exact h)
end Go.Proofs.Ytfaedjpfbaiojaa
