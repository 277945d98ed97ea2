/-
  Layer 1, as far as onetime's road goes: words turned; words as bytes, as mathematics.
-/
import Derived.Laws.BitsLemmas
import Derived.Lib.Strings
import Derived.Laws.BitsAllLaws
import Derived.Test.YtkgkmpelclmllaaDoorProg
import Derived.WalkKit
import Derived.BigQuiet
import Derived.Deep.QuietTactic
import Derived.Lib.Hide
import Derived.OwnWalk
import Derived.WalkSmall
import Derived.Laws.IdiomStrings
import Derived.Outline
import Derived.Lib.LaidTab
import Derived.KernelRfl
import Derived.Lib.UnsafeStr
import Derived.Lib.IndexBytes
namespace Go.Proofs.YtkgkmpelclmllaaDoor

section
/-! Plain mathematics of words: what the operations make of two words, as functions of integers; their laws. No program is named here. -/
/-- What an operation makes of two words. -/
def app (op a b : Int) : Int :=
  if op = 4 then (a + b) % 4294967296
  else if op = 5 then (a - b) % 4294967296
  else if op = 6 then (a * b) % 4294967296
  else if op = 7 then a / b
  else if op = 8 then (if b = 0 then 0 else a % b)
  else if op = 9 then bits .and .u32 a b
  else if op = 10 then bits .or .u32 a b
  else if op = 11 then bits .xor .u32 a b
  else if op = 12 then a * 2 ^ min b.toNat 32 % 4294967296
  else if op = 13 then a / 2 ^ min b.toNat 32
  else if op = 14 then (if a < b then 1 else 0)
  else if op = 15 then (if a = b then 1 else 0)
  else 0
/-- The error beside it. -/
def appE (op b : Int) : Int :=
  if op < 4 ∨ 15 < op then 1 else if (op = 7 ∨ op = 8) ∧ b = 0 then 14 else 0

theorem wraps_u32 (n : Int) (h₀ : 0 ≤ n) (h₁ : n < 2 ^ 32) : IntKind.u32.wrap n = n := by rw [IntKind.wrap_u32]; omega

theorem bits_xor_nat (a b : Nat) (ha : a < 2 ^ 32) (hb : b < 2 ^ 32) : bits .xor .u32 a b = ((a ^^^ b : Nat) : Int) := by
  have hp : (2 ^ 32 : Nat) = 2 ^ IntKind.u32.bits := rfl
  have ha' : a % 2 ^ IntKind.u32.bits = a := Nat.mod_eq_of_lt (by rw [← hp]; exact ha)
  have hb' : b % 2 ^ IntKind.u32.bits = b := Nat.mod_eq_of_lt (by rw [← hp]; exact hb)
  simp only [bits, BitVec.ofInt_natCast, BitVec.toNat_xor, BitVec.toNat_ofNat, ha', hb']
  have := Nat.xor_lt_two_pow ha hb
  exact wraps_u32 _ (Int.natCast_nonneg _) (by exact_mod_cast this)

theorem xor_small (a b : Int) (ha : 0 ≤ a) (ha' : a < 4294967296) (hb : 0 ≤ b) (hb' : b < 4294967296) :
    (0 ≤ bits .xor .u32 a b ∧ (bits .xor .u32 a b = 0 → a = b)) ∧ (a = b → bits .xor .u32 a b = 0) := by
  obtain ⟨x, rfl⟩ := Int.eq_ofNat_of_zero_le ha
  obtain ⟨y, rfl⟩ := Int.eq_ofNat_of_zero_le hb
  rw [bits_xor_nat x y (by omega) (by omega)]
  refine ⟨⟨Int.natCast_nonneg _, fun h => ?_⟩, fun h => ?_⟩
  · have h' : x ^^^ y = 0 := by exact_mod_cast h
    have : x = y := by have q := congrArg (· ^^^ y) h'; simpa [Nat.xor_assoc] using q
    rw [this]
  · have h' : x = y := by exact_mod_cast h
    subst h'
    simp

/-- Is a byte a decimal digit? -/
def digB (c : UInt8) : Bool := decide (48 ≤ c.toNat) && decide (c.toNat ≤ 57)
/-- Are all of them digits? -/
def allD (l : List UInt8) : Bool := l.all digB
/-- Is a text a number's: digits alone, one at least, the first one of several not 0? -/
def numB (l : List UInt8) : Bool := !l.isEmpty && !(decide (l.head? = some 48) && decide (1 < l.length)) && allD l
theorem digB_true {c : UInt8} (h₀ : 48 ≤ (c.toNat : Int)) (h₁ : (c.toNat : Int) ≤ 57) : digB c = true := by simp [digB]; omega
theorem digB_lo {c : UInt8} (h : (c.toNat : Int) < 48) : digB c = false := by simp [digB]; omega
theorem digB_hi {c : UInt8} (h : 57 < (c.toNat : Int)) : digB c = false := by simp [digB]; omega
theorem digB_iff {c : UInt8} : digB c = true ↔ 48 ≤ c.toNat ∧ c.toNat ≤ 57 := by simp [digB]
theorem take_snoc (s : ByteArray) (k : Nat) (h : k < s.size) : s.data.toList.take (k + 1) = s.data.toList.take k ++ [s[k]] := by
  rw [List.take_succ_eq_append_getElem (by simpa using h)]; rfl
theorem all_snoc (s : ByteArray) (k : Nat) (h : k < s.size) : allD (s.data.toList.take (k + 1)) = (allD (s.data.toList.take k) && digB s[k]) := by
  unfold allD
  rw [take_snoc s k h, List.all_append]; simp
theorem all_of_take (l : List UInt8) (k : Nat) (h : allD (l.take k) = false) : allD l = false := by
  unfold allD at h ⊢
  rw [← List.take_append_drop k l, List.all_append, h, Bool.false_and]
theorem len_toList (s : ByteArray) : s.data.toList.length = s.size := by rw [Array.length_toList]; rfl
theorem numB_none (s : ByteArray) (h : s.size = 0) : numB s.data.toList = false := by
  have : s.data.toList = [] := List.length_eq_zero_iff.mp (by rw [len_toList]; exact h)
  simp [numB, this]
theorem head_some (s : ByteArray) (h : 0 < s.size) : s.data.toList.head? = some s[0] := by
  rw [List.head?_eq_getElem?, List.getElem?_eq_getElem (by rw [len_toList]; exact h)]; rfl
theorem numB_zero (s : ByteArray) (h : 1 < s.size) (hc : s[0].toNat = 48) : numB s.data.toList = false := by
  have e : s[0] = 48 := UInt8.toNat_inj.mp (by rw [hc]; rfl)
  simp [numB, head_some s (by omega), e, h]
theorem numB_rest (s : ByteArray) (h : 0 < s.size) (hc : s[0].toNat ≠ 48 ∨ s.size = 1) : numB s.data.toList = allD s.data.toList := by
  have e0 : s.data.toList.isEmpty = false := by
    rw [Bool.eq_false_iff]; intro q; rw [List.isEmpty_iff] at q
    have := len_toList s; rw [q] at this; simp at this; omega
  have e1 : (decide (s.data.toList.head? = some 48) && decide (1 < s.data.toList.length)) = false := by
    rw [head_some s h, len_toList]
    rcases hc with hc | hc
    · have : s[0] ≠ 48 := fun q => hc (by rw [q]; rfl)
      simp [this]
    · simp [hc]
  unfold numB
  rw [e0, e1]; simp
theorem isEmpty_no (s : ByteArray) (h : 0 < s.size) : s.toList.isEmpty = false := by
  rw [Bool.eq_false_iff]; intro q; rw [List.isEmpty_iff] at q
  have e : s.toList = s.data.toList := Lib.toList_data s
  rw [e] at q
  have := len_toList s; rw [q] at this; simp at this; omega
theorem isEmpty_yes (s : ByteArray) (h : s.size = 0) : s.toList = [] := by
  have e : s.toList = s.data.toList := Lib.toList_data s
  rw [e]; exact List.length_eq_zero_iff.mp (by rw [len_toList]; exact h)
end

section
/-! Plain mathematics of turned words: the bits, one place on at a time; turned so often; what adds up. No program is named here. -/
/-- One place on towards the high end. -/
def st (x : Nat) : Nat := 2 * x % 4294967296 + x / 2147483648
/-- So many places on. -/
def rotN (a : Nat) : Nat → Nat
  | 0 => a
  | k + 1 => st (rotN a k)
theorem st_lt (x : Nat) (h : x < 4294967296) : st x < 4294967296 := by unfold st; omega
theorem rotN_lt (a k : Nat) (h : a < 4294967296) : rotN a k < 4294967296 := by
  induction k with
  | zero => exact h
  | succ k ih => exact st_lt _ ih
theorem rotN_step (h t r p q : Nat) (hpq : p * q = 2147483648) (hh : h < q) (ht : t < 2) (hr : r < p) :
    st ((p * t + r) * q + h) = r * (2 * q) + (2 * h + t) := by
  have e : (p * t + r) * q + h = 2147483648 * t + (r * q + h) := by
    rw [Nat.add_mul, Nat.mul_right_comm, hpq]; omega
  have hm : r * q + h < 2147483648 := by
    have h1 : (r + 1) * q ≤ p * q := Nat.mul_le_mul_right q hr
    rw [Nat.add_mul, Nat.one_mul, hpq] at h1
    omega
  have e2 : r * (2 * q) = 2 * (r * q) := Nat.mul_left_comm r 2 q
  rw [e, e2]
  generalize r * q = z at *
  unfold st
  have : t = 0 ∨ t = 1 := by omega
  rcases this with rfl | rfl <;> omega
theorem rotN_eq (a k : Nat) (ha : a < 4294967296) (hk : k ≤ 32) : rotN a k = (a % 2 ^ (32 - k)) * 2 ^ k + a / 2 ^ (32 - k) := by
  induction k with
  | zero =>
    have e1 : a % 4294967296 = a := Nat.mod_eq_of_lt ha
    have e2 : a / 4294967296 = 0 := Nat.div_eq_of_lt ha
    simp [rotN, e1, e2]
  | succ k ih =>
    have hk' : k ≤ 31 := by omega
    show st (rotN a k) = _
    rw [ih (by omega)]
    have e1 : 32 - k = (31 - k) + 1 := by omega
    have e2 : 32 - (k + 1) = 31 - k := by omega
    have hpq : 2 ^ (31 - k) * 2 ^ k = 2147483648 := by rw [← Nat.pow_add, show 31 - k + k = 31 by omega]
    rw [e1, e2, Nat.pow_succ 2 (31 - k), Nat.pow_succ 2 k]
    have hp : 0 < 2 ^ (31 - k) := Nat.two_pow_pos _
    have hq : 0 < 2 ^ k := Nat.two_pow_pos _
    generalize 2 ^ (31 - k) = p at *
    generalize 2 ^ k = q at *
    have hq2 : p * 2 * q = 4294967296 := by rw [Nat.mul_right_comm, hpq]
    have hh : a / (p * 2) < q := by
      rw [Nat.div_lt_iff_lt_mul (by omega), Nat.mul_comm q, hq2]; exact ha
    have ht : a % (p * 2) / p < 2 := by
      rw [Nat.div_lt_iff_lt_mul hp, Nat.mul_comm 2]; exact Nat.mod_lt _ (by omega)
    have hr : a % (p * 2) % p < p := Nat.mod_lt _ hp
    have key := rotN_step (a / (p * 2)) (a % (p * 2) / p) (a % (p * 2) % p) p q hpq hh ht hr
    rw [Nat.div_add_mod] at key
    rw [key]
    have f1 : a % (p * 2) % p = a % p := Nat.mod_mul_right_mod a p 2
    have f2 : a / p = 2 * (a / (p * 2)) + a % (p * 2) / p := by
      have g1 : a = p * (2 * (a / (p * 2)) + a % (p * 2) / p) + a % (p * 2) % p := by
        rw [Nat.mul_add, Nat.add_assoc, Nat.div_add_mod (a % (p * 2)) p, ← Nat.mul_assoc, Nat.div_add_mod]
      have g2 : a / p = (p * (2 * (a / (p * 2)) + a % (p * 2) / p) + a % (p * 2) % p) / p := congrArg (· / p) g1
      rw [Nat.mul_add_div hp, Nat.div_eq_of_lt hr, Nat.add_zero] at g2
      exact g2
    rw [f1, f2, Nat.mul_comm q 2]
theorem rotN_add (a i j : Nat) : rotN (rotN a i) j = rotN a (i + j) := by
  induction j with
  | zero => rfl
  | succ j ih => show st (rotN (rotN a i) j) = st (rotN a (i + j)); rw [ih]
theorem rotN_32 (a : Nat) (ha : a < 4294967296) : rotN a 32 = a := by
  rw [rotN_eq a 32 ha (Nat.le_refl _)]; simp [Nat.mod_one]
theorem rotN_mul (a k m : Nat) (ha : a < 4294967296) : rotN a (32 * m + k) = rotN a k := by
  induction m with
  | zero => simp
  | succ m ih =>
    rw [show 32 * (m + 1) + k = 32 + (32 * m + k) by omega, ← rotN_add, rotN_32 a ha, ih]
theorem rotN_mod (a k : Nat) (ha : a < 4294967296) : rotN a k = rotN a (k % 32) := by
  have := rotN_mul a (k % 32) (k / 32) ha
  rw [Nat.div_add_mod] at this
  exact this

/-- A word turned n places on. -/
def rotI (a n : Int) : Int := (rotN a.toNat (n % 32).toNat : Nat)
theorem rotI_bd (a n : Int) (ha' : a < 4294967296) : 0 ≤ rotI a n ∧ rotI a n < 4294967296 := by
  unfold rotI
  have := rotN_lt a.toNat (n % 32).toNat (by omega)
  omega
theorem mask31 (n : Int) : bits .and .u64 (IntKind.u64.wrap n) 31 = n % 32 := by
  have e : IntKind.u64.wrap n = n % 18446744073709551616 := by simp [IntKind.wrap, IntKind.bits, IntKind.signed]
  rw [e]
  have h := bits_mask .u64 64 (by decide) (fun m h₀ h₁ => by simp [IntKind.wrap, IntKind.bits, IntKind.signed]; omega) 5 (by decide) (n % 18446744073709551616) (by omega) (by omega)
  have h' : bits .and .u64 (n % 18446744073709551616) 31 = n % 18446744073709551616 % 32 := h
  rw [h']; omega
theorem join_rot (a k : Int) (ha : 0 ≤ a) (ha' : a < 4294967296) (hk : 0 ≤ k) (hk' : k ≤ 31) :
    bits .or .u32 (a * 2 ^ min k.toNat 32 % 4294967296) (a / 2 ^ min (32 - k).toNat 32) = (rotN a.toNat k.toNat : Nat) := by
  obtain ⟨x, rfl⟩ := Int.eq_ofNat_of_zero_le ha
  obtain ⟨m, rfl⟩ := Int.eq_ofNat_of_zero_le hk
  have hm : m ≤ 31 := by omega
  have e1 : min ((m : Int)).toNat 32 = m := by omega
  have e2 : min (32 - (m : Int)).toNat 32 = 32 - m := by omega
  rw [e1, e2]
  have hx : x < 4294967296 := by omega
  have c1 : ((x : Int) * 2 ^ m % 4294967296) = ((x % 2 ^ (32 - m) * 2 ^ m : Nat) : Int) := by
    have q : 2 ^ (32 - m) * 2 ^ m = 4294967296 := by rw [← Nat.pow_add, show 32 - m + m = 32 by omega]
    have r : x * 2 ^ m % 4294967296 = x % 2 ^ (32 - m) * 2 ^ m := by rw [← q, Nat.mul_mod_mul_right]
    rw [← r]; simp
  have c2 : ((x : Int) / 2 ^ (32 - m)) = ((x / 2 ^ (32 - m) : Nat) : Int) := by simp
  have hp : 2 ^ (32 - m) * 2 ^ m = 4294967296 := by rw [← Nat.pow_add, show 32 - m + m = 32 by omega]
  have hlt : x / 2 ^ (32 - m) < 2 ^ m := by
    rw [Nat.div_lt_iff_lt_mul (Nat.two_pow_pos _), Nat.mul_comm, hp]; exact hx
  have hlo : x % 2 ^ (32 - m) * 2 ^ m < 4294967296 := by
    rw [← hp]; exact Nat.mul_lt_mul_of_pos_right (Nat.mod_lt _ (Nat.two_pow_pos _)) (Nat.two_pow_pos _)
  have hle : 2 ^ m ≤ 4294967296 := by
    have : 2 ^ m ≤ 2 ^ 32 := Nat.pow_le_pow_right (by decide) (by omega)
    exact this
  rw [c1, c2]
  have key := bits_join .u32 32 (by decide) wraps_u32 m ((x % 2 ^ (32 - m) * 2 ^ m : Nat) : Int) ((x / 2 ^ (32 - m) : Nat) : Int) (Int.natCast_nonneg _)
    (by
      have z : (x % 2 ^ (32 - m) * 2 ^ m) % 2 ^ m = 0 := Nat.mul_mod_left _ _
      have z' : (((x % 2 ^ (32 - m) * 2 ^ m) % 2 ^ m : Nat) : Int) = 0 := by rw [z]; rfl
      rw [Int.natCast_emod, Int.natCast_pow] at z'
      exact z')
    (by exact_mod_cast hlo) (Int.natCast_nonneg _) (by exact_mod_cast hlt) (by
      have : x / 2 ^ (32 - m) < 2 ^ 32 := by omega
      exact_mod_cast this)
  rw [key]
  have := rotN_eq x m hx (by omega)
  simp only [Int.toNat_natCast]
  rw [this]
  exact (Int.natCast_add _ _).symm
theorem join_rot' (a k : Int) (ha : 0 ≤ a) (ha' : a < 4294967296) (hk : 0 ≤ k) (hk' : k ≤ 31) :
    bits .or .u32 (a * 2 ^ k.toNat % 4294967296) (a / 2 ^ (32 - k).toNat) = (rotN a.toNat k.toNat : Nat) := by
  have h := join_rot a k ha ha' hk hk'
  rw [show min k.toNat 32 = k.toNat by omega, show min (32 - k).toNat 32 = (32 - k).toNat by omega] at h
  exact h
end

section
/-! What the texts of all layers share: the walk's parts, and a table in a package variable. -/
open Go.RowKit Go.Lib

theorem tab_low {w : World} {n : String} {k : IntKind} {zs : List Int} {g : Nat} (h : TabIs Tryd.prog w n k zs) (hg : Tryd.prog.globalNamed n = some g) : g < w.heap.size := by
  unfold TabIs World.var? at h
  simp only [hg, Option.bind_some] at h
  rcases Nat.lt_or_ge g w.heap.size with h' | h'
  · exact h'
  · rw [Array.getElem?_eq_none h'] at h; simp at h
theorem tab_below {w w' : World} {n : String} {k : IntKind} {zs : List Int} {g B : Nat} (h : TabIs Tryd.prog w n k zs) (hg : Tryd.prog.globalNamed n = some g) (hgB : g < B) (hB : Below B w w') : TabIs Tryd.prog w' n k zs := by
  unfold TabIs World.var? at *
  simp only [hg, Option.bind_some] at h ⊢
  rw [hB.block g hgB]
  exact h
end

section
/-! The contracts of RotateLeft32 and Turn. -/
open Go.RowKit

theorem ret_int {k : IntKind} {a b : Int} (h : a = b) : Ending.returned (.int k a) = .returned (.int k b) := by rw [h]
theorem rotl_any (a n : Int) (w : World) (ha : 0 ≤ a) (ha' : a < 4294967296) :
    Calls Tryd.prog 46 #[.int .u32 a, .int .i64 n] w fun e w' => e = .returned (.int .u32 (rotI a n)) ∧ w = w' := by
  obtain ⟨k, hk⟩ : ∃ k : Int, k = n % 32 := ⟨_, rfl⟩
  have hm := mask31 n
  rw [← hk] at hm
  have h0 : 0 ≤ k := by omega
  have h1 : k ≤ 31 := by omega
  have HR := Lib.hid (join_rot' a k ha ha' h0 h1)
  have HK := Lib.hid hk
  clear hk
  go_enter Tryd.func46, Tryd.ntmps46
  go_wp2
  go_ret
  exact ⟨ret_int (by rw [HR.out, HK.out]; rfl), rfl⟩
theorem turn_any (a n : Int) (w : World) (ha : 0 ≤ a) (ha' : a < 4294967296) :
    Calls Tryd.prog 45 #[.int .u32 a, .int .i64 n] w fun e w' => e = .returned (.int .u32 (rotI a n)) ∧ w = w' := by
  go_enter Tryd.func45, Tryd.ntmps45
  go_wp2_with (go_at_call 46; refine (rotl_any a n _ ha ha').mono ?_; rintro e w' ⟨rfl, rfl⟩)
  go_ret
  exact ⟨rfl, rfl⟩
end

section
/-! Plain mathematics of words as bytes: four bytes each, the lowest first. No program is named here. -/
/-- A word's byte of a number. -/
def byteN (x j : Nat) : UInt8 := UInt8.ofNat (x / 256 ^ j % 256)
/-- A word's bytes, up to a number of them. -/
def w4n (x : Nat) : Nat → List UInt8
  | 0 => []
  | j + 1 => w4n x j ++ [byteN x j]
def w4 (x : Int) : List UInt8 := w4n x.toNat 4
/-- The bytes of all, one behind the other. -/
def wbytes (l : List Int) : List UInt8 := l.flatMap w4
theorem byteN_val (x j : Nat) : ((byteN x j).toNat : Int) = (x : Int) / 256 ^ j % 256 := by
  unfold byteN
  rw [UInt8.toNat_ofNat']
  have : x / 256 ^ j % 256 % 2 ^ 8 = x / 256 ^ j % 256 := Nat.mod_eq_of_lt (by omega)
  rw [this]; simp
theorem w4n_length (x j : Nat) : (w4n x j).length = j := by
  induction j with
  | zero => rfl
  | succ j ih => simp [w4n, ih]
theorem w4_length (x : Int) : (w4 x).length = 4 := w4n_length _ 4
theorem wbytes_nil : wbytes [] = [] := rfl
theorem wbytes_snoc (l : List Int) (x : Int) : wbytes (l ++ [x]) = wbytes l ++ w4 x := by
  simp [wbytes, List.flatMap_append]
theorem wbytes_cons (x : Int) (l : List Int) : wbytes (x :: l) = w4 x ++ wbytes l := by simp [wbytes]
theorem wbytes_length (l : List Int) : (wbytes l).length = 4 * l.length := by
  induction l with
  | nil => rfl
  | cons x l ih =>
    have e : wbytes (x :: l) = w4 x ++ wbytes l := by simp [wbytes]
    rw [e, List.length_append, w4_length, ih, List.length_cons]; omega
theorem take_snocI (l : List Int) (k : Nat) (h : k < l.length) : l.take (k + 1) = l.take k ++ [l[k]] := by
  rw [List.take_succ_eq_append_getElem h]
theorem div_step (x : Int) (j : Nat) (h : 0 ≤ x) : x / 256 ^ j / 256 = x / 256 ^ (j + 1) := by
  obtain ⟨m, rfl⟩ := Int.eq_ofNat_of_zero_le h
  have e : m / 256 ^ j / 256 = m / 256 ^ (j + 1) := by rw [Nat.div_div_eq_div_mul, Nat.pow_succ]
  have e' : ((m / 256 ^ j / 256 : Nat) : Int) = ((m / 256 ^ (j + 1) : Nat) : Int) := by rw [e]
  simpa using e'
theorem pack_step (L : List UInt8) (x y : Int) (j : Nat) (h : 0 ≤ x) (hy : y = x / 256 ^ j) :
    Lib.byteCells (L ++ w4n x.toNat j) ++ [.int .u8 (y % 256)] = Lib.byteCells (L ++ w4n x.toNat (j + 1)) := by
  obtain ⟨m, rfl⟩ := Int.eq_ofNat_of_zero_le h
  have e : y % 256 = ((byteN m j).toNat : Int) := by rw [byteN_val, hy]
  rw [e]
  simp [Lib.byteCells, w4n]
theorem cells_length (l : List UInt8) : (Lib.byteCells l).length = l.length := by simp [Lib.byteCells]
theorem pack_length (xs : List Int) (k x j : Nat) (hk : k ≤ xs.length) : (Lib.byteCells (wbytes (xs.take k) ++ w4n x j)).length = 4 * k + j := by
  rw [cells_length, List.length_append, wbytes_length, w4n_length, List.length_take]; omega
end

section
/-! Plain mathematics of bytes as words: four bytes each; what is written is read, what is read is written. No program is named here. -/
/-- The word of four bytes, the lowest first. -/
def fw (a b c d : UInt8) : Int := ((a.toNat + 256 * b.toNat + 65536 * c.toNat + 16777216 * d.toNat : Nat) : Int)
theorem fw_bd (a b c d : UInt8) : 0 ≤ fw a b c d ∧ fw a b c d < 4294967296 := by
  have := a.toNat_lt
  have := b.toNat_lt
  have := c.toNat_lt
  have := d.toNat_lt
  unfold fw; omega
/-- The words of bytes, four each. -/
def wordsR : List UInt8 → List Int
  | a :: b :: c :: d :: l => fw a b c d :: wordsR l
  | _ => []
/-- The word of a number. -/
def wAt (l : List UInt8) (k : Nat) : Int := fw (l.getD (4 * k) 0) (l.getD (4 * k + 1) 0) (l.getD (4 * k + 2) 0) (l.getD (4 * k + 3) 0)
theorem wordsR_length : ∀ l : List UInt8, (wordsR l).length = l.length / 4
  | [] => by simp [wordsR]
  | [_] => by simp [wordsR]
  | [_, _] => by simp [wordsR]
  | [_, _, _] => by simp [wordsR]
  | a :: b :: c :: d :: l => by
    have := wordsR_length l
    simp only [wordsR, List.length_cons, this]
    omega
theorem wordsR_at : ∀ (l : List UInt8) (k : Nat), k < l.length / 4 → (wordsR l)[k]? = some (wAt l k)
  | [], k, h => absurd h (by simp)
  | [_], k, h => absurd h (by simp)
  | [_, _], k, h => absurd h (by simp)
  | [_, _, _], k, h => absurd h (by simp)
  | a :: b :: c :: d :: l, 0, _ => rfl
  | a :: b :: c :: d :: l, k + 1, h => by
    have hk : k < l.length / 4 := by simp only [List.length_cons] at h; omega
    have ih := wordsR_at l k hk
    rw [wordsR, List.getElem?_cons_succ, ih]
    unfold wAt
    rw [show 4 * (k + 1) = 4 * k + 4 by omega, show 4 * k + 4 + 1 = (4 * k + 1) + 4 by omega, show 4 * k + 4 + 2 = (4 * k + 2) + 4 by omega, show 4 * k + 4 + 3 = (4 * k + 3) + 4 by omega]
    rfl
theorem wordsR_take (l : List UInt8) (k : Nat) (h : k < l.length / 4) : (wordsR l).take (k + 1) = (wordsR l).take k ++ [wAt l k] := by
  have hl : k < (wordsR l).length := by rw [wordsR_length]; exact h
  rw [List.take_succ_eq_append_getElem hl]
  have := wordsR_at l k h
  rw [List.getElem?_eq_getElem hl] at this
  rw [Option.some.inj this]
theorem wordsR_bd : ∀ (l : List UInt8) (x : Int), x ∈ wordsR l → 0 ≤ x ∧ x < 4294967296
  | [], x, h => by simp [wordsR] at h
  | [_], x, h => by simp [wordsR] at h
  | [_, _], x, h => by simp [wordsR] at h
  | [_, _, _], x, h => by simp [wordsR] at h
  | a :: b :: c :: d :: l, x, h => by
    rw [wordsR, List.mem_cons] at h
    rcases h with rfl | h
    · exact fw_bd a b c d
    · exact wordsR_bd l x h
theorem w4_four (x : Int) : w4 x = [byteN x.toNat 0, byteN x.toNat 1, byteN x.toNat 2, byteN x.toNat 3] := by
  simp [w4, w4n]
theorem byteN_nat (x j : Nat) : (byteN x j).toNat = x / 256 ^ j % 256 := by
  unfold byteN
  rw [UInt8.toNat_ofNat']; exact Nat.mod_eq_of_lt (by omega)
theorem fw_w4 (x : Int) (h : 0 ≤ x) (h' : x < 4294967296) : fw (byteN x.toNat 0) (byteN x.toNat 1) (byteN x.toNat 2) (byteN x.toNat 3) = x := by
  unfold fw
  rw [byteN_nat, byteN_nat, byteN_nat, byteN_nat]
  omega
theorem byte_eq {a : UInt8} {n : Nat} (h : n = a.toNat) : UInt8.ofNat n = a := by rw [h]; exact UInt8.ofNat_toNat
theorem w4_fw (a b c d : UInt8) : w4 (fw a b c d) = [a, b, c, d] := by
  have := a.toNat_lt
  have := b.toNat_lt
  have := c.toNat_lt
  have := d.toNat_lt
  have e : (fw a b c d).toNat = a.toNat + 256 * b.toNat + 65536 * c.toNat + 16777216 * d.toNat := by unfold fw; omega
  rw [w4_four, e]
  unfold byteN
  rw [byte_eq (a := a) (by omega), byte_eq (a := b) (by omega), byte_eq (a := c) (by omega), byte_eq (a := d) (by omega)]
/-- What is read is written as it was. -/
theorem wbytes_wordsR : ∀ l : List UInt8, l.length % 4 = 0 → wbytes (wordsR l) = l
  | [], _ => rfl
  | [_], h => absurd h (by simp)
  | [_, _], h => absurd h (by simp)
  | [_, _, _], h => absurd h (by simp)
  | a :: b :: c :: d :: l, h => by
    have ih := wbytes_wordsR l (by simp only [List.length_cons] at h; omega)
    rw [wordsR, wbytes_cons, ih, w4_fw]
    rfl
/-- What is written is read as it was. -/
theorem wordsR_wbytes (xs : List Int) (h : ∀ x ∈ xs, 0 ≤ x ∧ x < 4294967296) : wordsR (wbytes xs) = xs := by
  induction xs with
  | nil => rfl
  | cons x xs ih =>
    have hx := h x (by simp)
    rw [wbytes_cons, w4_four]
    show wordsR (byteN x.toNat 0 :: byteN x.toNat 1 :: byteN x.toNat 2 :: byteN x.toNat 3 :: wbytes xs) = x :: xs
    rw [wordsR, fw_w4 x hx.1 hx.2, ih (fun y hy => h y (by simp [hy]))]

/-! Rows of words. -/
def rowU (n : Nat) (f : Nat → Int) : List Value := (List.range n).map fun t => Value.int .u32 (f t)
theorem rowU_length (n : Nat) (f : Nat → Int) : (rowU n f).length = n := by simp [rowU]
theorem rowU_at (n : Nat) (f : Nat → Int) (j : Nat) (h : j < n) : (rowU n f)[j]? = some (.int .u32 (f j)) := by
  simp [rowU, List.getElem?_map, List.getElem?_range h]
theorem rowU_congr (n : Nat) (f g : Nat → Int) (h : ∀ t, t < n → f t = g t) : rowU n f = rowU n g := by
  unfold rowU
  apply List.map_congr_left
  intro t ht
  rw [h t (List.mem_range.mp ht)]
theorem rowU_set (n : Nat) (f : Nat → Int) (j : Nat) (v : Int) : (rowU n f).set j (.int .u32 v) = rowU n (fun t => if t = j then v else f t) := by
  apply List.ext_getElem?
  intro t
  rw [List.getElem?_set]
  by_cases ht : t < n
  · rw [rowU_at n _ t ht]
    by_cases hj : j = t
    · subst hj; rw [if_pos rfl, if_pos (by rw [rowU_length]; exact ht), rowU_at n _ j ht, if_pos rfl]
    · have : ¬ t = j := fun q => hj q.symm
      rw [if_neg hj, rowU_at n _ t ht, if_neg this]
  · have e1 : (rowU n f)[t]? = none := List.getElem?_eq_none (by rw [rowU_length]; omega)
    have e2 : (rowU n (fun t => if t = j then v else f t))[t]? = none := List.getElem?_eq_none (by rw [rowU_length]; omega)
    rw [e1, e2]
    by_cases hj : j = t
    · subst hj; simp [rowU_length, ht]
    · simp [hj]
/-- What is left of the first j words done, the others 0. -/
def doneF (f : Nat → Int) (j t : Nat) : Int := if t < j then f t else 0
theorem doneF_step (n : Nat) (f : Nat → Int) (j : Nat) : (rowU n (doneF f j)).set j (.int .u32 (f j)) = rowU n (doneF f (j + 1)) := by
  rw [rowU_set]
  apply rowU_congr
  intro t _
  unfold doneF
  by_cases h : t = j
  · subst h; simp
  · by_cases h2 : t < j
    · rw [if_neg h, if_pos h2, if_pos (by omega)]
    · rw [if_neg h, if_neg h2, if_neg (by omega)]
theorem rowU_words (l : List UInt8) (n : Nat) (h : l.length / 4 = n) : rowU n (doneF (wAt l) n) = (wordsR l).map (Value.int .u32) := by
  apply List.ext_getElem?
  intro t
  rw [List.getElem?_map]
  by_cases ht : t < n
  · rw [rowU_at n _ t ht, wordsR_at l t (by omega)]
    simp [doneF, ht]
  · rw [List.getElem?_eq_none (by rw [rowU_length]; omega), List.getElem?_eq_none (by rw [wordsR_length]; omega)]
    rfl
theorem wAt_drop (l : List UInt8) (k : Nat) : wAt (l.drop (4 * k)) 0 = wAt l k := by
  unfold wAt
  simp only [List.getD, List.getElem?_drop, Nat.mul_zero, Nat.zero_add, Nat.add_zero]

/-! What 'or' makes of four bytes at their places. -/
theorem join_lo (i y x : Nat) (hi : i ≤ 32) (hy : y < 2 ^ i) (hx : x % 2 ^ i = 0) (hx' : x < 4294967296) : bits .or .u32 (y : Int) (x : Int) = ((y + x : Nat) : Int) := by
  have hle : 2 ^ i ≤ 4294967296 := by
    have : 2 ^ i ≤ 2 ^ 32 := Nat.pow_le_pow_right (by decide) hi
    exact this
  have h1 := (bits_nat .u32 32 (by decide) wraps_u32 y x (by omega) (by omega)).2
  rw [h1, Nat.or_comm]
  have hq : x = 2 ^ i * (x / 2 ^ i) := by
    have := Nat.div_add_mod x (2 ^ i)
    omega
  have h2 : x ||| y = x + y := by
    rw [hq, ← Nat.two_pow_add_eq_or_of_lt hy (x / 2 ^ i)]
  rw [h2, Nat.add_comm]
theorem or_four (a b c d : UInt8) :
    bits .or .u32 (bits .or .u32 (bits .or .u32 ((a.toNat : Int) % 4294967296) ((b.toNat : Int) % 4294967296 * 256 % 4294967296)) ((c.toNat : Int) % 4294967296 * 65536 % 4294967296)) ((d.toNat : Int) % 4294967296 * 16777216 % 4294967296) = fw a b c d := by
  have ha := a.toNat_lt
  have hb := b.toNat_lt
  have hc := c.toNat_lt
  have hd := d.toNat_lt
  have e0 : (a.toNat : Int) % 4294967296 = (a.toNat : Nat) := by omega
  have e1 : (b.toNat : Int) % 4294967296 * 256 % 4294967296 = ((256 * b.toNat : Nat) : Int) := by omega
  have e2 : (c.toNat : Int) % 4294967296 * 65536 % 4294967296 = ((65536 * c.toNat : Nat) : Int) := by omega
  have e3 : (d.toNat : Int) % 4294967296 * 16777216 % 4294967296 = ((16777216 * d.toNat : Nat) : Int) := by omega
  rw [e0, e1, e2, e3, join_lo 8 a.toNat (256 * b.toNat) (by omega) (by omega) (by omega) (by omega), join_lo 16 _ (65536 * c.toNat) (by omega) (by omega) (by omega) (by omega),
    join_lo 24 _ (16777216 * d.toNat) (by omega) (by omega) (by omega) (by omega)]
  rfl
end

section
/-! The contract of the document's own Turn (as in layer 1). -/
open Go.RowKit

theorem ret_intT {k : IntKind} {a b : Int} (h : a = b) : Ending.returned (.int k a) = .returned (.int k b) := by rw [h]
theorem rotI_congr (a n m : Int) (h : n % 32 = m % 32) : rotI a n = rotI a m := by unfold rotI; rw [h]
theorem rotI_add (a n m : Int) (ha : 0 ≤ a) (ha' : a < 4294967296) : rotI (rotI a n) m = rotI a (n + m) := by
  obtain ⟨x, rfl⟩ := Int.eq_ofNat_of_zero_le ha
  have hx : x < 4294967296 := by omega
  show ((rotN ((rotN ((x : Int)).toNat (n % 32).toNat : Nat) : Int).toNat (m % 32).toNat : Nat) : Int) = (rotN ((x : Int)).toNat ((n + m) % 32).toNat : Nat)
  rw [Int.toNat_natCast, Int.toNat_natCast, rotN_add, rotN_mod x _ hx]
  have : ((n % 32).toNat + (m % 32).toNat) % 32 = ((n + m) % 32).toNat := by omega
  rw [this]
theorem rotI_zero (a n : Int) (ha : 0 ≤ a) (h : n % 32 = 0) : rotI a n = a := by
  obtain ⟨x, rfl⟩ := Int.eq_ofNat_of_zero_le ha
  unfold rotI
  rw [h]; rfl
theorem tmod_facts (n : Int) : -32 < n.tmod 32 ∧ n.tmod 32 < 32 ∧ n.tmod 32 % 32 = n % 32 ∧ (n < 0 → n.tmod 32 ≤ 0) := by
  have h1 := Int.mul_tdiv_add_tmod n 32
  have h2 := Int.tmod_lt_of_pos n (show (0 : Int) < 32 by decide)
  have h3 := Int.lt_tmod_of_pos n (show (0 : Int) < 32 by decide)
  refine ⟨h3, h2, by omega, fun h => ?_⟩
  have h4 : (-n).tmod 32 = -(n.tmod 32) := Int.neg_tmod n 32
  have h5 := Int.tmod_nonneg 32 (show (0 : Int) ≤ -n by omega)
  omega
theorem st_cast (x : Nat) : ((st x : Nat) : Int) = 2 * (x : Int) % 4294967296 + (x : Int) / 2147483648 := by
  unfold st; omega

set_option maxHeartbeats 400000 in
theorem refTurn_pos (a n k : Int) (w : World) (ha : 0 ≤ a) (ha' : a < 4294967296) (hk0 : 0 ≤ k) (_hk1 : k < 32) (hn : 0 ≤ n) (hkn : n % 32 = k) (HK : Hid (rotI a n = (rotN a.toNat k.toNat : Nat))) :
    Calls Tryd.prog 44 #[.int .u32 a, .int .i64 n] w fun e w' => e = .returned (.int .u32 (rotI a n)) ∧ w = w' := by
  go_enter Tryd.func44, Tryd.ntmps44
  go_wp2
  go_loop [6, 7] (fun v i => ∃ (j : Nat) (y : Int), (j : Int) ≤ k ∧ i = .int .i64 j ∧ v = .int .u64 y ∧ 0 ≤ y ∧ y < 4294967296 ∧ Hid (y = (rotN a.toNat j : Nat))) (fun _ i => 32 - (intOf i).toNat)
  case atStart => exact ⟨0, a, by omega, rfl, rfl, ha, ha', by show a = (a.toNat : Int); omega⟩
  case round =>
    obtain ⟨j, y, hj, rfl, rfl, hy0, hy1, HY⟩ := hrel
    by_cases hlt : (j : Int) < k
    · go_wp2
      go_round
      case rel => exact ⟨j + 1, 2 * y % 4294967296 + y / 2147483648, by omega, by go_num, rfl, by omega, by omega, by rw [HY.out]; exact (st_cast _).symm⟩
      case measure => simp [intOf]; omega
    · have hjk : (j : Int) = k := by omega
      have HJ := Lib.hid hjk
      clear hjk
      go_wp2
      go_ret
      refine ⟨ret_intT ?_, rfl⟩
      rw [HY.out, HK.out]
      have := HJ.out
      rw [show j = k.toNat by omega]
set_option maxHeartbeats 400000 in
theorem refTurn_neg (a n k : Int) (w : World) (ha : 0 ≤ a) (ha' : a < 4294967296) (hk0 : 0 ≤ k) (_hk1 : k < 32) (r : Int) (hr : n.tmod 32 = r) (hr0 : r < 0) (hr1 : -32 < r) (hkr : r + 32 = k) (HK : Hid (rotI a n = (rotN a.toNat k.toNat : Nat))) :
    Calls Tryd.prog 44 #[.int .u32 a, .int .i64 n] w fun e w' => e = .returned (.int .u32 (rotI a n)) ∧ w = w' := by
  go_enter Tryd.func44, Tryd.ntmps44
  go_wp2
  go_loop [6, 7] (fun v i => ∃ (j : Nat) (y : Int), (j : Int) ≤ k ∧ i = .int .i64 j ∧ v = .int .u64 y ∧ 0 ≤ y ∧ y < 4294967296 ∧ Hid (y = (rotN a.toNat j : Nat))) (fun _ i => 32 - (intOf i).toNat)
  case atStart => exact ⟨0, a, by omega, rfl, rfl, ha, ha', by show a = (a.toNat : Int); omega⟩
  case round =>
    obtain ⟨j, y, hj, rfl, rfl, hy0, hy1, HY⟩ := hrel
    by_cases hlt : (j : Int) < k
    · go_wp2
      go_round
      case rel => exact ⟨j + 1, 2 * y % 4294967296 + y / 2147483648, by omega, by go_num, rfl, by omega, by omega, by rw [HY.out]; exact (st_cast _).symm⟩
      case measure => simp [intOf]; omega
    · have hjk : (j : Int) = k := by omega
      have HJ := Lib.hid hjk
      clear hjk
      go_wp2
      go_ret
      refine ⟨ret_intT ?_, rfl⟩
      rw [HY.out, HK.out]
      have := HJ.out
      rw [show j = k.toNat by omega]
set_option maxHeartbeats 400000 in
theorem refTurn_nil (a n k : Int) (w : World) (ha : 0 ≤ a) (ha' : a < 4294967296) (hk0 : 0 ≤ k) (_hk1 : k < 32) (_hn : n < 0) (hr : n.tmod 32 = k) (HK : Hid (rotI a n = (rotN a.toNat k.toNat : Nat))) :
    Calls Tryd.prog 44 #[.int .u32 a, .int .i64 n] w fun e w' => e = .returned (.int .u32 (rotI a n)) ∧ w = w' := by
  go_enter Tryd.func44, Tryd.ntmps44
  go_wp2
  go_loop [6, 7] (fun v i => ∃ (j : Nat) (y : Int), (j : Int) ≤ k ∧ i = .int .i64 j ∧ v = .int .u64 y ∧ 0 ≤ y ∧ y < 4294967296 ∧ Hid (y = (rotN a.toNat j : Nat))) (fun _ i => 32 - (intOf i).toNat)
  case atStart => exact ⟨0, a, by omega, rfl, rfl, ha, ha', by show a = (a.toNat : Int); omega⟩
  case round =>
    obtain ⟨j, y, hj, rfl, rfl, hy0, hy1, HY⟩ := hrel
    by_cases hlt : (j : Int) < k
    · go_wp2
      go_round
      case rel => exact ⟨j + 1, 2 * y % 4294967296 + y / 2147483648, by omega, by go_num, rfl, by omega, by omega, by rw [HY.out]; exact (st_cast _).symm⟩
      case measure => simp [intOf]; omega
    · have hjk : (j : Int) = k := by omega
      have HJ := Lib.hid hjk
      clear hjk
      go_wp2
      go_ret
      refine ⟨ret_intT ?_, rfl⟩
      rw [HY.out, HK.out]
      have := HJ.out
      rw [show j = k.toNat by omega]
theorem refTurn_any (a n : Int) (w : World) (ha : 0 ≤ a) (ha' : a < 4294967296) :
    Calls Tryd.prog 44 #[.int .u32 a, .int .i64 n] w fun e w' => e = .returned (.int .u32 (rotI a n)) ∧ w = w' := by
  by_cases hn : 0 ≤ n
  · exact refTurn_pos a n (n % 32) w ha ha' (by omega) (by omega) hn rfl rfl
  · obtain ⟨h1, h2, h3, h4⟩ := tmod_facts n
    have h5 := h4 (by omega)
    by_cases hz : n.tmod 32 = 0
    · exact refTurn_nil a n 0 w ha ha' (by omega) (by omega) (by omega) hz (by show rotI a n = _; unfold rotI; rw [show n % 32 = 0 by omega])
    · exact refTurn_neg a n (n % 32) w ha ha' (by omega) (by omega) (n.tmod 32) rfl (by omega) h1 (by omega) rfl
end

end Go.Proofs.YtkgkmpelclmllaaDoor
