/-
  Layer 1, as later layers want it: words turned, as bytes, of bytes; strings.Builder's methods.
-/
import Derived.Laws.BitsLemmas
import Derived.Lib.Strings
import Derived.Laws.BitsAllLaws
import Derived.Test.YtdphhpmkcalahaaDoorProg
import Derived.WalkKit
import Derived.BigQuiet
import Derived.Deep.QuietTactic
import Derived.Lib.Hide
import Derived.OwnWalk
import Derived.WalkSmall
import Derived.Laws.IdiomStrings
import Derived.Outline
import Derived.Lib.LaidTab
import Derived.Shelf.Strings.Builder2
import Derived.KernelRfl
import Derived.Lib.UnsafeStr
import Derived.Lib.IndexBytes
namespace Go.Proofs.YtdphhpmkcalahaaDoor

section
/-! Plain mathematics of words: what the operations make of two words, as functions of integers; their laws. No program is named here. -/
/-- What an operation makes of two words. -/
def app (op a b : Int) : Int :=
  if op = 4 then (a + b) % 4294967296
  else if op = 5 then (a - b) % 4294967296
  else if op = 6 then (a * b) % 4294967296
  else if op = 7 then a / b
  else if op = 8 then (if b = 0 then 0 else a % b)
  else if op = 9 then bits .and .u32 a b
  else if op = 10 then bits .or .u32 a b
  else if op = 11 then bits .xor .u32 a b
  else if op = 12 then a * 2 ^ min b.toNat 32 % 4294967296
  else if op = 13 then a / 2 ^ min b.toNat 32
  else if op = 14 then (if a < b then 1 else 0)
  else if op = 15 then (if a = b then 1 else 0)
  else 0
/-- The error beside it. -/
def appE (op b : Int) : Int :=
  if op < 4 ∨ 15 < op then 1 else if (op = 7 ∨ op = 8) ∧ b = 0 then 14 else 0

theorem wraps_u32 (n : Int) (h₀ : 0 ≤ n) (h₁ : n < 2 ^ 32) : IntKind.u32.wrap n = n := by rw [IntKind.wrap_u32]; omega

theorem bits_xor_nat (a b : Nat) (ha : a < 2 ^ 32) (hb : b < 2 ^ 32) : bits .xor .u32 a b = ((a ^^^ b : Nat) : Int) := by
  have hp : (2 ^ 32 : Nat) = 2 ^ IntKind.u32.bits := rfl
  have ha' : a % 2 ^ IntKind.u32.bits = a := Nat.mod_eq_of_lt (by rw [← hp]; exact ha)
  have hb' : b % 2 ^ IntKind.u32.bits = b := Nat.mod_eq_of_lt (by rw [← hp]; exact hb)
  simp only [bits, BitVec.ofInt_natCast, BitVec.toNat_xor, BitVec.toNat_ofNat, ha', hb']
  have := Nat.xor_lt_two_pow ha hb
  exact wraps_u32 _ (Int.natCast_nonneg _) (by exact_mod_cast this)

theorem xor_small (a b : Int) (ha : 0 ≤ a) (ha' : a < 4294967296) (hb : 0 ≤ b) (hb' : b < 4294967296) :
    (0 ≤ bits .xor .u32 a b ∧ (bits .xor .u32 a b = 0 → a = b)) ∧ (a = b → bits .xor .u32 a b = 0) := by
  obtain ⟨x, rfl⟩ := Int.eq_ofNat_of_zero_le ha
  obtain ⟨y, rfl⟩ := Int.eq_ofNat_of_zero_le hb
  rw [bits_xor_nat x y (by omega) (by omega)]
  refine ⟨⟨Int.natCast_nonneg _, fun h => ?_⟩, fun h => ?_⟩
  · have h' : x ^^^ y = 0 := by exact_mod_cast h
    have : x = y := by have q := congrArg (· ^^^ y) h'; simpa [Nat.xor_assoc] using q
    rw [this]
  · have h' : x = y := by exact_mod_cast h
    subst h'
    simp

/-- Is a byte a decimal digit? -/
def digB (c : UInt8) : Bool := decide (48 ≤ c.toNat) && decide (c.toNat ≤ 57)
/-- Are all of them digits? -/
def allD (l : List UInt8) : Bool := l.all digB
/-- Is a text a number's: digits alone, one at least, the first one of several not 0? -/
def numB (l : List UInt8) : Bool := !l.isEmpty && !(decide (l.head? = some 48) && decide (1 < l.length)) && allD l
theorem digB_true {c : UInt8} (h₀ : 48 ≤ (c.toNat : Int)) (h₁ : (c.toNat : Int) ≤ 57) : digB c = true := by simp [digB]; omega
theorem digB_lo {c : UInt8} (h : (c.toNat : Int) < 48) : digB c = false := by simp [digB]; omega
theorem digB_hi {c : UInt8} (h : 57 < (c.toNat : Int)) : digB c = false := by simp [digB]; omega
theorem digB_iff {c : UInt8} : digB c = true ↔ 48 ≤ c.toNat ∧ c.toNat ≤ 57 := by simp [digB]
theorem take_snoc (s : ByteArray) (k : Nat) (h : k < s.size) : s.data.toList.take (k + 1) = s.data.toList.take k ++ [s[k]] := by
  rw [List.take_succ_eq_append_getElem (by simpa using h)]; rfl
theorem all_snoc (s : ByteArray) (k : Nat) (h : k < s.size) : allD (s.data.toList.take (k + 1)) = (allD (s.data.toList.take k) && digB s[k]) := by
  unfold allD
  rw [take_snoc s k h, List.all_append]; simp
theorem all_of_take (l : List UInt8) (k : Nat) (h : allD (l.take k) = false) : allD l = false := by
  unfold allD at h ⊢
  rw [← List.take_append_drop k l, List.all_append, h, Bool.false_and]
theorem len_toList (s : ByteArray) : s.data.toList.length = s.size := by rw [Array.length_toList]; rfl
theorem numB_none (s : ByteArray) (h : s.size = 0) : numB s.data.toList = false := by
  have : s.data.toList = [] := List.length_eq_zero_iff.mp (by rw [len_toList]; exact h)
  simp [numB, this]
theorem head_some (s : ByteArray) (h : 0 < s.size) : s.data.toList.head? = some s[0] := by
  rw [List.head?_eq_getElem?, List.getElem?_eq_getElem (by rw [len_toList]; exact h)]; rfl
theorem numB_zero (s : ByteArray) (h : 1 < s.size) (hc : s[0].toNat = 48) : numB s.data.toList = false := by
  have e : s[0] = 48 := UInt8.toNat_inj.mp (by rw [hc]; rfl)
  simp [numB, head_some s (by omega), e, h]
theorem numB_rest (s : ByteArray) (h : 0 < s.size) (hc : s[0].toNat ≠ 48 ∨ s.size = 1) : numB s.data.toList = allD s.data.toList := by
  have e0 : s.data.toList.isEmpty = false := by
    rw [Bool.eq_false_iff]; intro q; rw [List.isEmpty_iff] at q
    have := len_toList s; rw [q] at this; simp at this; omega
  have e1 : (decide (s.data.toList.head? = some 48) && decide (1 < s.data.toList.length)) = false := by
    rw [head_some s h, len_toList]
    rcases hc with hc | hc
    · have : s[0] ≠ 48 := fun q => hc (by rw [q]; rfl)
      simp [this]
    · simp [hc]
  unfold numB
  rw [e0, e1]; simp
theorem isEmpty_no (s : ByteArray) (h : 0 < s.size) : s.toList.isEmpty = false := by
  rw [Bool.eq_false_iff]; intro q; rw [List.isEmpty_iff] at q
  have e : s.toList = s.data.toList := Lib.toList_data s
  rw [e] at q
  have := len_toList s; rw [q] at this; simp at this; omega
theorem isEmpty_yes (s : ByteArray) (h : s.size = 0) : s.toList = [] := by
  have e : s.toList = s.data.toList := Lib.toList_data s
  rw [e]; exact List.length_eq_zero_iff.mp (by rw [len_toList]; exact h)
end

section
/-! Plain mathematics of turned words: the bits, one place on at a time; turned so often; what adds up. No program is named here. -/
/-- One place on towards the high end. -/
def st (x : Nat) : Nat := 2 * x % 4294967296 + x / 2147483648
/-- So many places on. -/
def rotN (a : Nat) : Nat → Nat
  | 0 => a
  | k + 1 => st (rotN a k)
theorem st_lt (x : Nat) (h : x < 4294967296) : st x < 4294967296 := by unfold st; omega
theorem rotN_lt (a k : Nat) (h : a < 4294967296) : rotN a k < 4294967296 := by
  induction k with
  | zero => exact h
  | succ k ih => exact st_lt _ ih
theorem rotN_step (h t r p q : Nat) (hpq : p * q = 2147483648) (hh : h < q) (ht : t < 2) (hr : r < p) :
    st ((p * t + r) * q + h) = r * (2 * q) + (2 * h + t) := by
  have e : (p * t + r) * q + h = 2147483648 * t + (r * q + h) := by
    rw [Nat.add_mul, Nat.mul_right_comm, hpq]; omega
  have hm : r * q + h < 2147483648 := by
    have h1 : (r + 1) * q ≤ p * q := Nat.mul_le_mul_right q hr
    rw [Nat.add_mul, Nat.one_mul, hpq] at h1
    omega
  have e2 : r * (2 * q) = 2 * (r * q) := Nat.mul_left_comm r 2 q
  rw [e, e2]
  generalize r * q = z at *
  unfold st
  have : t = 0 ∨ t = 1 := by omega
  rcases this with rfl | rfl <;> omega
theorem rotN_eq (a k : Nat) (ha : a < 4294967296) (hk : k ≤ 32) : rotN a k = (a % 2 ^ (32 - k)) * 2 ^ k + a / 2 ^ (32 - k) := by
  induction k with
  | zero =>
    have e1 : a % 4294967296 = a := Nat.mod_eq_of_lt ha
    have e2 : a / 4294967296 = 0 := Nat.div_eq_of_lt ha
    simp [rotN, e1, e2]
  | succ k ih =>
    have hk' : k ≤ 31 := by omega
    show st (rotN a k) = _
    rw [ih (by omega)]
    have e1 : 32 - k = (31 - k) + 1 := by omega
    have e2 : 32 - (k + 1) = 31 - k := by omega
    have hpq : 2 ^ (31 - k) * 2 ^ k = 2147483648 := by rw [← Nat.pow_add, show 31 - k + k = 31 by omega]
    rw [e1, e2, Nat.pow_succ 2 (31 - k), Nat.pow_succ 2 k]
    have hp : 0 < 2 ^ (31 - k) := Nat.two_pow_pos _
    have hq : 0 < 2 ^ k := Nat.two_pow_pos _
    generalize 2 ^ (31 - k) = p at *
    generalize 2 ^ k = q at *
    have hq2 : p * 2 * q = 4294967296 := by rw [Nat.mul_right_comm, hpq]
    have hh : a / (p * 2) < q := by
      rw [Nat.div_lt_iff_lt_mul (by omega), Nat.mul_comm q, hq2]; exact ha
    have ht : a % (p * 2) / p < 2 := by
      rw [Nat.div_lt_iff_lt_mul hp, Nat.mul_comm 2]; exact Nat.mod_lt _ (by omega)
    have hr : a % (p * 2) % p < p := Nat.mod_lt _ hp
    have key := rotN_step (a / (p * 2)) (a % (p * 2) / p) (a % (p * 2) % p) p q hpq hh ht hr
    rw [Nat.div_add_mod] at key
    rw [key]
    have f1 : a % (p * 2) % p = a % p := Nat.mod_mul_right_mod a p 2
    have f2 : a / p = 2 * (a / (p * 2)) + a % (p * 2) / p := by
      have g1 : a = p * (2 * (a / (p * 2)) + a % (p * 2) / p) + a % (p * 2) % p := by
        rw [Nat.mul_add, Nat.add_assoc, Nat.div_add_mod (a % (p * 2)) p, ← Nat.mul_assoc, Nat.div_add_mod]
      have g2 : a / p = (p * (2 * (a / (p * 2)) + a % (p * 2) / p) + a % (p * 2) % p) / p := congrArg (· / p) g1
      rw [Nat.mul_add_div hp, Nat.div_eq_of_lt hr, Nat.add_zero] at g2
      exact g2
    rw [f1, f2, Nat.mul_comm q 2]
theorem rotN_add (a i j : Nat) : rotN (rotN a i) j = rotN a (i + j) := by
  induction j with
  | zero => rfl
  | succ j ih => show st (rotN (rotN a i) j) = st (rotN a (i + j)); rw [ih]
theorem rotN_32 (a : Nat) (ha : a < 4294967296) : rotN a 32 = a := by
  rw [rotN_eq a 32 ha (Nat.le_refl _)]; simp [Nat.mod_one]
theorem rotN_mul (a k m : Nat) (ha : a < 4294967296) : rotN a (32 * m + k) = rotN a k := by
  induction m with
  | zero => simp
  | succ m ih =>
    rw [show 32 * (m + 1) + k = 32 + (32 * m + k) by omega, ← rotN_add, rotN_32 a ha, ih]
theorem rotN_mod (a k : Nat) (ha : a < 4294967296) : rotN a k = rotN a (k % 32) := by
  have := rotN_mul a (k % 32) (k / 32) ha
  rw [Nat.div_add_mod] at this
  exact this

/-- A word turned n places on. -/
def rotI (a n : Int) : Int := (rotN a.toNat (n % 32).toNat : Nat)
theorem rotI_bd (a n : Int) (ha' : a < 4294967296) : 0 ≤ rotI a n ∧ rotI a n < 4294967296 := by
  unfold rotI
  have := rotN_lt a.toNat (n % 32).toNat (by omega)
  omega
theorem mask31 (n : Int) : bits .and .u64 (IntKind.u64.wrap n) 31 = n % 32 := by
  have e : IntKind.u64.wrap n = n % 18446744073709551616 := by simp [IntKind.wrap, IntKind.bits, IntKind.signed]
  rw [e]
  have h := bits_mask .u64 64 (by decide) (fun m h₀ h₁ => by simp [IntKind.wrap, IntKind.bits, IntKind.signed]; omega) 5 (by decide) (n % 18446744073709551616) (by omega) (by omega)
  have h' : bits .and .u64 (n % 18446744073709551616) 31 = n % 18446744073709551616 % 32 := h
  rw [h']; omega
theorem join_rot (a k : Int) (ha : 0 ≤ a) (ha' : a < 4294967296) (hk : 0 ≤ k) (hk' : k ≤ 31) :
    bits .or .u32 (a * 2 ^ min k.toNat 32 % 4294967296) (a / 2 ^ min (32 - k).toNat 32) = (rotN a.toNat k.toNat : Nat) := by
  obtain ⟨x, rfl⟩ := Int.eq_ofNat_of_zero_le ha
  obtain ⟨m, rfl⟩ := Int.eq_ofNat_of_zero_le hk
  have hm : m ≤ 31 := by omega
  have e1 : min ((m : Int)).toNat 32 = m := by omega
  have e2 : min (32 - (m : Int)).toNat 32 = 32 - m := by omega
  rw [e1, e2]
  have hx : x < 4294967296 := by omega
  have c1 : ((x : Int) * 2 ^ m % 4294967296) = ((x % 2 ^ (32 - m) * 2 ^ m : Nat) : Int) := by
    have q : 2 ^ (32 - m) * 2 ^ m = 4294967296 := by rw [← Nat.pow_add, show 32 - m + m = 32 by omega]
    have r : x * 2 ^ m % 4294967296 = x % 2 ^ (32 - m) * 2 ^ m := by rw [← q, Nat.mul_mod_mul_right]
    rw [← r]; simp
  have c2 : ((x : Int) / 2 ^ (32 - m)) = ((x / 2 ^ (32 - m) : Nat) : Int) := by simp
  have hp : 2 ^ (32 - m) * 2 ^ m = 4294967296 := by rw [← Nat.pow_add, show 32 - m + m = 32 by omega]
  have hlt : x / 2 ^ (32 - m) < 2 ^ m := by
    rw [Nat.div_lt_iff_lt_mul (Nat.two_pow_pos _), Nat.mul_comm, hp]; exact hx
  have hlo : x % 2 ^ (32 - m) * 2 ^ m < 4294967296 := by
    rw [← hp]; exact Nat.mul_lt_mul_of_pos_right (Nat.mod_lt _ (Nat.two_pow_pos _)) (Nat.two_pow_pos _)
  have hle : 2 ^ m ≤ 4294967296 := by
    have : 2 ^ m ≤ 2 ^ 32 := Nat.pow_le_pow_right (by decide) (by omega)
    exact this
  rw [c1, c2]
  have key := bits_join .u32 32 (by decide) wraps_u32 m ((x % 2 ^ (32 - m) * 2 ^ m : Nat) : Int) ((x / 2 ^ (32 - m) : Nat) : Int) (Int.natCast_nonneg _)
    (by
      have z : (x % 2 ^ (32 - m) * 2 ^ m) % 2 ^ m = 0 := Nat.mul_mod_left _ _
      have z' : (((x % 2 ^ (32 - m) * 2 ^ m) % 2 ^ m : Nat) : Int) = 0 := by rw [z]; rfl
      rw [Int.natCast_emod, Int.natCast_pow] at z'
      exact z')
    (by exact_mod_cast hlo) (Int.natCast_nonneg _) (by exact_mod_cast hlt) (by
      have : x / 2 ^ (32 - m) < 2 ^ 32 := by omega
      exact_mod_cast this)
  rw [key]
  have := rotN_eq x m hx (by omega)
  simp only [Int.toNat_natCast]
  rw [this]
  exact (Int.natCast_add _ _).symm
theorem join_rot' (a k : Int) (ha : 0 ≤ a) (ha' : a < 4294967296) (hk : 0 ≤ k) (hk' : k ≤ 31) :
    bits .or .u32 (a * 2 ^ k.toNat % 4294967296) (a / 2 ^ (32 - k).toNat) = (rotN a.toNat k.toNat : Nat) := by
  have h := join_rot a k ha ha' hk hk'
  rw [show min k.toNat 32 = k.toNat by omega, show min (32 - k).toNat 32 = (32 - k).toNat by omega] at h
  exact h
end

section
/-! What the texts of all layers share: the walk's parts, and a table in a package variable. -/
open Go.RowKit Go.Lib

theorem tab_low {w : World} {n : String} {k : IntKind} {zs : List Int} {g : Nat} (h : TabIs Tryd.prog w n k zs) (hg : Tryd.prog.globalNamed n = some g) : g < w.heap.size := by
  unfold TabIs World.var? at h
  simp only [hg, Option.bind_some] at h
  rcases Nat.lt_or_ge g w.heap.size with h' | h'
  · exact h'
  · rw [Array.getElem?_eq_none h'] at h; simp at h
theorem tab_below {w w' : World} {n : String} {k : IntKind} {zs : List Int} {g B : Nat} (h : TabIs Tryd.prog w n k zs) (hg : Tryd.prog.globalNamed n = some g) (hgB : g < B) (hB : Below B w w') : TabIs Tryd.prog w' n k zs := by
  unfold TabIs World.var? at *
  simp only [hg, Option.bind_some] at h ⊢
  rw [hB.block g hgB]
  exact h
end

section
/-! The contracts of RotateLeft32 and Turn. -/
open Go.RowKit

theorem ret_int {k : IntKind} {a b : Int} (h : a = b) : Ending.returned (.int k a) = .returned (.int k b) := by rw [h]
theorem rotl_any (a n : Int) (w : World) (ha : 0 ≤ a) (ha' : a < 4294967296) :
    Calls Tryd.prog 95 #[.int .u32 a, .int .i64 n] w fun e w' => e = .returned (.int .u32 (rotI a n)) ∧ w = w' := by
  obtain ⟨k, hk⟩ : ∃ k : Int, k = n % 32 := ⟨_, rfl⟩
  have hm := mask31 n
  rw [← hk] at hm
  have h0 : 0 ≤ k := by omega
  have h1 : k ≤ 31 := by omega
  have HR := Lib.hid (join_rot' a k ha ha' h0 h1)
  have HK := Lib.hid hk
  clear hk
  go_enter Tryd.func95, Tryd.ntmps95
  go_wp2
  go_ret
  exact ⟨ret_int (by rw [HR.out, HK.out]; rfl), rfl⟩
theorem turn_any (a n : Int) (w : World) (ha : 0 ≤ a) (ha' : a < 4294967296) :
    Calls Tryd.prog 90 #[.int .u32 a, .int .i64 n] w fun e w' => e = .returned (.int .u32 (rotI a n)) ∧ w = w' := by
  go_enter Tryd.func90, Tryd.ntmps90
  go_wp2_with (go_at_call 95; refine (rotl_any a n _ ha ha').mono ?_; rintro e w' ⟨rfl, rfl⟩)
  go_ret
  exact ⟨rfl, rfl⟩
end

section
/-! The two layings of strings.Builder's methods that the shelf's command leaves out at this translation (WriteByte, Grow), written by hand: the numbering and its facts; then each contract at this program's own numbers. No condition beside what each contract names. -/
open Go.Shelf Go.RowKit
def lay167_ren : Go.Shelf.Ren := ⟨fun | 167 => 72 | 240 => 83 | 276 => 91 | n => n, fun | 0 => 0 | 4 => 4 | 5 => 5 | 9 => 9 | 20 => 20 | 37 => 79 | 70 => 100 | 72 => 102 | 75 => 105 | 164 => 122 | 80 => 107 | n => n, fun | n => n⟩
theorem lay167 : Go.Proofs.Lays.n167 Tryd.prog lay167_ren := {
  mixed := by kernel_rfl
  f167 := Tryd.func72.trans (congrArg some (by kernel_rfl))
  f240 := Tryd.func83.trans (congrArg some (by kernel_rfl))
  f276 := Tryd.func91.trans (congrArg some (by kernel_rfl))
  t0 := Tryd.underlying0
  a0 := Tryd.isAgg0
  z0 := Tryd.sizeOf0
  v0 := Tryd.zeroValue0
  t4 := Tryd.underlying4
  a4 := Tryd.isAgg4
  z4 := Tryd.sizeOf4
  v4 := Tryd.zeroValue4
  t5 := Tryd.underlying5
  a5 := Tryd.isAgg5
  z5 := Tryd.sizeOf5
  v5 := Tryd.zeroValue5
  t9 := Tryd.underlying9
  a9 := Tryd.isAgg9
  z9 := Tryd.sizeOf9
  v9 := Tryd.zeroValue9
  t20 := Tryd.underlying20
  a20 := Tryd.isAgg20
  z20 := Tryd.sizeOf20
  v20 := Tryd.zeroValue20
  t37 := Tryd.underlying79
  a37 := Tryd.isAgg79
  z37 := Tryd.sizeOf79
  v37 := Tryd.zeroValue79
  t70 := Tryd.underlying100
  a70 := Tryd.isAgg100
  z70 := Tryd.sizeOf100
  v70 := Tryd.zeroValue100
  t72 := Tryd.underlying102
  a72 := Tryd.isAgg102
  z72 := Tryd.sizeOf102
  v72 := Tryd.zeroValue102
  t75 := Tryd.underlying105
  a75 := Tryd.isAgg105
  z75 := Tryd.sizeOf105
  v75 := Tryd.zeroValue105
  t164 := Tryd.underlying122
  a164 := Tryd.isAgg122
  z164 := Tryd.sizeOf122
  v164 := Tryd.zeroValue122 }
theorem lay167_X : Builder.Extra Tryd.prog lay167_ren := {
  sizeBuilder := by kernel_rfl
  liesBuilder := by kernel_rfl
  t5 := Tryd.underlying5
  a5 := Tryd.isAgg5
  z5 := Tryd.sizeOf5
  v5 := Tryd.zeroValue5
  infoByte := by kernel_rfl
  cellsByte := by kernel_rfl
  sizeByte := by kernel_rfl
  neB5 := by decide }
def lay165_ren : Go.Shelf.Ren := ⟨fun | 165 => 71 | 240 => 83 | 241 => 84 | 276 => 91 | 277 => 92 | n => n, fun | 0 => 0 | 3 => 3 | 4 => 4 | 9 => 9 | 20 => 20 | 37 => 79 | 70 => 100 | 72 => 102 | 164 => 122 | 80 => 107 | 5 => 5 | n => n, fun | n => n⟩
theorem lay165 : Go.Proofs.Lays.n165 Tryd.prog lay165_ren := {
  mixed := by kernel_rfl
  f165 := Tryd.func71.trans (congrArg some (by kernel_rfl))
  f240 := Tryd.func83.trans (congrArg some (by kernel_rfl))
  f241 := Tryd.func84.trans (congrArg some (by kernel_rfl))
  f276 := Tryd.func91.trans (congrArg some (by kernel_rfl))
  f277 := Tryd.func92.trans (congrArg some (by kernel_rfl))
  t0 := Tryd.underlying0
  a0 := Tryd.isAgg0
  z0 := Tryd.sizeOf0
  v0 := Tryd.zeroValue0
  t3 := Tryd.underlying3
  a3 := Tryd.isAgg3
  z3 := Tryd.sizeOf3
  v3 := Tryd.zeroValue3
  t4 := Tryd.underlying4
  a4 := Tryd.isAgg4
  z4 := Tryd.sizeOf4
  v4 := Tryd.zeroValue4
  t9 := Tryd.underlying9
  a9 := Tryd.isAgg9
  z9 := Tryd.sizeOf9
  v9 := Tryd.zeroValue9
  t20 := Tryd.underlying20
  a20 := Tryd.isAgg20
  z20 := Tryd.sizeOf20
  v20 := Tryd.zeroValue20
  t37 := Tryd.underlying79
  a37 := Tryd.isAgg79
  z37 := Tryd.sizeOf79
  v37 := Tryd.zeroValue79
  t70 := Tryd.underlying100
  a70 := Tryd.isAgg100
  z70 := Tryd.sizeOf100
  v70 := Tryd.zeroValue100
  t72 := Tryd.underlying102
  a72 := Tryd.isAgg102
  z72 := Tryd.sizeOf102
  v72 := Tryd.zeroValue102
  t164 := Tryd.underlying122
  a164 := Tryd.isAgg122
  z164 := Tryd.sizeOf122
  v164 := Tryd.zeroValue122 }
theorem lay165_X : Builder.Extra Tryd.prog lay165_ren := {
  sizeBuilder := by kernel_rfl
  liesBuilder := by kernel_rfl
  t5 := Tryd.underlying5
  a5 := Tryd.isAgg5
  z5 := Tryd.sizeOf5
  v5 := Tryd.zeroValue5
  infoByte := by kernel_rfl
  cellsByte := by kernel_rfl
  sizeByte := by kernel_rfl
  neB5 := by decide }
def lay169_ren : Go.Shelf.Ren := ⟨fun | 169 => 73 | n => n, fun | 0 => 0 | 3 => 3 | 9 => 9 | 37 => 79 | 70 => 100 | 72 => 102 | 127 => 115 | 80 => 107 | 5 => 5 | n => n, fun | n => n⟩
theorem lay169 : Go.Proofs.Lays.n169 Tryd.prog lay169_ren := {
  mixed := by kernel_rfl
  f169 := Tryd.func73.trans (congrArg some (by kernel_rfl))
  t0 := Tryd.underlying0
  a0 := Tryd.isAgg0
  z0 := Tryd.sizeOf0
  v0 := Tryd.zeroValue0
  t3 := Tryd.underlying3
  a3 := Tryd.isAgg3
  z3 := Tryd.sizeOf3
  v3 := Tryd.zeroValue3
  t9 := Tryd.underlying9
  a9 := Tryd.isAgg9
  z9 := Tryd.sizeOf9
  v9 := Tryd.zeroValue9
  t37 := Tryd.underlying79
  a37 := Tryd.isAgg79
  z37 := Tryd.sizeOf79
  v37 := Tryd.zeroValue79
  t70 := Tryd.underlying100
  a70 := Tryd.isAgg100
  z70 := Tryd.sizeOf100
  v70 := Tryd.zeroValue100
  t72 := Tryd.underlying102
  a72 := Tryd.isAgg102
  z72 := Tryd.sizeOf102
  v72 := Tryd.zeroValue102
  t127 := Tryd.underlying115
  a127 := Tryd.isAgg115
  z127 := Tryd.sizeOf115
  v127 := Tryd.zeroValue115 }
theorem lay169_X : Builder.Extra Tryd.prog lay169_ren := {
  sizeBuilder := by kernel_rfl
  liesBuilder := by kernel_rfl
  t5 := Tryd.underlying5
  a5 := Tryd.isAgg5
  z5 := Tryd.sizeOf5
  v5 := Tryd.zeroValue5
  infoByte := by kernel_rfl
  cellsByte := by kernel_rfl
  sizeByte := by kernel_rfl
  neB5 := by decide }
theorem writeByte_any (B b : Nat) (bs : List Value) (c : Int) (w : World) (h : Lib.IsBuilder 102 5 B b bs w) (hlen : bs.length + 1 ≤ 140737488355328) (hBw : B ≤ w.heap.size) :
    Calls Tryd.prog 72 #[.pointer (some ⟨b, 0, none⟩), .int .u8 c] w fun e w' => e = .returned .nilIface ∧ (Lib.BuilderAt 102 5 B b (.pointer (some ⟨b, 0, none⟩)) (bs ++ [.int .u8 c]) w' ∧ Below B w w') := Any.Builder_WriteByte lay167 lay167_X B b bs c w h hlen hBw
theorem grow_any (B b n : Nat) (w : World) (hB : B ≤ b) (hbk : w.heap[b]? = some (.cells #[.pointer none, .slice none 0 0] 102 (0, 0))) (hBw : B ≤ w.heap.size) (hn : n ≤ 281474976710656) :
    Calls Tryd.prog 71 #[.pointer (some ⟨b, 0, none⟩), .int .i64 n] w fun e w' => e = .returned (.tuple #[]) ∧ (Lib.BuilderAt 102 5 B b (.pointer (some ⟨b, 0, none⟩)) [] w' ∧ Below B w w') := Any.Builder_Grow_fresh lay165 lay165_X B b n w hB hbk hBw hn
theorem string_any (B b : Nat) (l : List UInt8) (w : World) (h : Lib.IsBuilder 102 5 B b (Lib.byteCells l) w) (hBw : B ≤ w.heap.size) :
    Calls Tryd.prog 73 #[.pointer (some ⟨b, 0, none⟩)] w fun e w' => e = .returned (.string ⟨l.toArray⟩) ∧ Below B w w' := Any.Builder_String_any lay169 lay169_X B b l w h hBw
end

section
/-! The two layings of strings.Builder's methods that the shelf's command leaves out at this translation (WriteByte, Grow), written by hand: the numbering and its facts; then each contract at this program's own numbers. No condition beside what each contract names. -/
open Go.Shelf Go.RowKit
def lay166_ren : Go.Shelf.Ren := ⟨fun | 166 => 81 | 240 => 83 | 276 => 91 | n => n, fun | 0 => 0 | 3 => 3 | 4 => 4 | 9 => 9 | 20 => 20 | 37 => 79 | 70 => 100 | 72 => 102 | 75 => 105 | 164 => 122 | 80 => 107 | 5 => 5 | n => n, fun | n => n⟩
theorem lay166 : Go.Proofs.Lays.n166 Tryd.prog lay166_ren := {
  mixed := by kernel_rfl
  f166 := Tryd.func81.trans (congrArg some (by kernel_rfl))
  f240 := Tryd.func83.trans (congrArg some (by kernel_rfl))
  f276 := Tryd.func91.trans (congrArg some (by kernel_rfl))
  t0 := Tryd.underlying0
  a0 := Tryd.isAgg0
  z0 := Tryd.sizeOf0
  v0 := Tryd.zeroValue0
  t3 := Tryd.underlying3
  a3 := Tryd.isAgg3
  z3 := Tryd.sizeOf3
  v3 := Tryd.zeroValue3
  t4 := Tryd.underlying4
  a4 := Tryd.isAgg4
  z4 := Tryd.sizeOf4
  v4 := Tryd.zeroValue4
  t9 := Tryd.underlying9
  a9 := Tryd.isAgg9
  z9 := Tryd.sizeOf9
  v9 := Tryd.zeroValue9
  t20 := Tryd.underlying20
  a20 := Tryd.isAgg20
  z20 := Tryd.sizeOf20
  v20 := Tryd.zeroValue20
  t37 := Tryd.underlying79
  a37 := Tryd.isAgg79
  z37 := Tryd.sizeOf79
  v37 := Tryd.zeroValue79
  t70 := Tryd.underlying100
  a70 := Tryd.isAgg100
  z70 := Tryd.sizeOf100
  v70 := Tryd.zeroValue100
  t72 := Tryd.underlying102
  a72 := Tryd.isAgg102
  z72 := Tryd.sizeOf102
  v72 := Tryd.zeroValue102
  t75 := Tryd.underlying105
  a75 := Tryd.isAgg105
  z75 := Tryd.sizeOf105
  v75 := Tryd.zeroValue105
  t164 := Tryd.underlying122
  a164 := Tryd.isAgg122
  z164 := Tryd.sizeOf122
  v164 := Tryd.zeroValue122 }
theorem lay166_X : Builder.Extra Tryd.prog lay166_ren := {
  sizeBuilder := by kernel_rfl
  liesBuilder := by kernel_rfl
  t5 := Tryd.underlying5
  a5 := Tryd.isAgg5
  z5 := Tryd.sizeOf5
  v5 := Tryd.zeroValue5
  infoByte := by kernel_rfl
  cellsByte := by kernel_rfl
  sizeByte := by kernel_rfl
  neB5 := by decide }
theorem writeString_any (B b : Nat) (bs : List Value) (s : ByteArray) (w : World) (h : Lib.IsBuilder 102 5 B b bs w) (hlen : bs.length + s.size ≤ 140737488355328) (hBw : B ≤ w.heap.size) :
    Calls Tryd.prog 81 #[.pointer (some ⟨b, 0, none⟩), .string s] w fun e w' => e = .returned (.tuple #[.int .i64 s.size, .nilIface]) ∧ (Lib.BuilderAt 102 5 B b (.pointer (some ⟨b, 0, none⟩)) (bs ++ Lib.strCells s) w' ∧ Below B w w') := Any.Builder_WriteString lay166 lay166_X B b bs s w h hlen hBw
end

section
/-! The two layings of strings.Builder's methods that the shelf's command leaves out at this translation (WriteByte, Grow), written by hand: the numbering and its facts; then each contract at this program's own numbers. No condition beside what each contract names. -/
open Go.Shelf Go.RowKit
def lay170_ren : Go.Shelf.Ren := ⟨fun | 170 => 80 | n => n, fun | 0 => 0 | 3 => 3 | 37 => 79 | 70 => 100 | 72 => 102 | 80 => 107 | 5 => 5 | n => n, fun | n => n⟩
theorem lay170 : Go.Proofs.Lays.n170 Tryd.prog lay170_ren := {
  mixed := by kernel_rfl
  f170 := Tryd.func80.trans (congrArg some (by kernel_rfl))
  t0 := Tryd.underlying0
  a0 := Tryd.isAgg0
  z0 := Tryd.sizeOf0
  v0 := Tryd.zeroValue0
  t3 := Tryd.underlying3
  a3 := Tryd.isAgg3
  z3 := Tryd.sizeOf3
  v3 := Tryd.zeroValue3
  t37 := Tryd.underlying79
  a37 := Tryd.isAgg79
  z37 := Tryd.sizeOf79
  v37 := Tryd.zeroValue79
  t70 := Tryd.underlying100
  a70 := Tryd.isAgg100
  z70 := Tryd.sizeOf100
  v70 := Tryd.zeroValue100
  t72 := Tryd.underlying102
  a72 := Tryd.isAgg102
  z72 := Tryd.sizeOf102
  v72 := Tryd.zeroValue102 }
theorem lay170_X : Builder.Extra Tryd.prog lay170_ren := {
  sizeBuilder := by kernel_rfl
  liesBuilder := by kernel_rfl
  t5 := Tryd.underlying5
  a5 := Tryd.isAgg5
  z5 := Tryd.sizeOf5
  v5 := Tryd.zeroValue5
  infoByte := by kernel_rfl
  cellsByte := by kernel_rfl
  sizeByte := by kernel_rfl
  neB5 := by decide }
theorem len_any (B b : Nat) (bs : List Value) (w : World) (h : Lib.IsBuilder 102 5 B b bs w) :
    Calls Tryd.prog 80 #[.pointer (some ⟨b, 0, none⟩)] w fun e w' => e = .returned (.int .i64 bs.length) ∧ w' = w := Any.Builder_Len lay170 B b bs w h
end

section
/-! Plain mathematics of words as bytes: four bytes each, the lowest first. No program is named here. -/
/-- A word's byte of a number. -/
def byteN (x j : Nat) : UInt8 := UInt8.ofNat (x / 256 ^ j % 256)
/-- A word's bytes, up to a number of them. -/
def w4n (x : Nat) : Nat → List UInt8
  | 0 => []
  | j + 1 => w4n x j ++ [byteN x j]
def w4 (x : Int) : List UInt8 := w4n x.toNat 4
/-- The bytes of all, one behind the other. -/
def wbytes (l : List Int) : List UInt8 := l.flatMap w4
theorem byteN_val (x j : Nat) : ((byteN x j).toNat : Int) = (x : Int) / 256 ^ j % 256 := by
  unfold byteN
  rw [UInt8.toNat_ofNat']
  have : x / 256 ^ j % 256 % 2 ^ 8 = x / 256 ^ j % 256 := Nat.mod_eq_of_lt (by omega)
  rw [this]; simp
theorem w4n_length (x j : Nat) : (w4n x j).length = j := by
  induction j with
  | zero => rfl
  | succ j ih => simp [w4n, ih]
theorem w4_length (x : Int) : (w4 x).length = 4 := w4n_length _ 4
theorem wbytes_nil : wbytes [] = [] := rfl
theorem wbytes_snoc (l : List Int) (x : Int) : wbytes (l ++ [x]) = wbytes l ++ w4 x := by
  simp [wbytes, List.flatMap_append]
theorem wbytes_cons (x : Int) (l : List Int) : wbytes (x :: l) = w4 x ++ wbytes l := by simp [wbytes]
theorem wbytes_length (l : List Int) : (wbytes l).length = 4 * l.length := by
  induction l with
  | nil => rfl
  | cons x l ih =>
    have e : wbytes (x :: l) = w4 x ++ wbytes l := by simp [wbytes]
    rw [e, List.length_append, w4_length, ih, List.length_cons]; omega
theorem take_snocI (l : List Int) (k : Nat) (h : k < l.length) : l.take (k + 1) = l.take k ++ [l[k]] := by
  rw [List.take_succ_eq_append_getElem h]
theorem div_step (x : Int) (j : Nat) (h : 0 ≤ x) : x / 256 ^ j / 256 = x / 256 ^ (j + 1) := by
  obtain ⟨m, rfl⟩ := Int.eq_ofNat_of_zero_le h
  have e : m / 256 ^ j / 256 = m / 256 ^ (j + 1) := by rw [Nat.div_div_eq_div_mul, Nat.pow_succ]
  have e' : ((m / 256 ^ j / 256 : Nat) : Int) = ((m / 256 ^ (j + 1) : Nat) : Int) := by rw [e]
  simpa using e'
theorem pack_step (L : List UInt8) (x y : Int) (j : Nat) (h : 0 ≤ x) (hy : y = x / 256 ^ j) :
    Lib.byteCells (L ++ w4n x.toNat j) ++ [.int .u8 (y % 256)] = Lib.byteCells (L ++ w4n x.toNat (j + 1)) := by
  obtain ⟨m, rfl⟩ := Int.eq_ofNat_of_zero_le h
  have e : y % 256 = ((byteN m j).toNat : Int) := by rw [byteN_val, hy]
  rw [e]
  simp [Lib.byteCells, w4n]
theorem cells_length (l : List UInt8) : (Lib.byteCells l).length = l.length := by simp [Lib.byteCells]
theorem pack_length (xs : List Int) (k x j : Nat) (hk : k ≤ xs.length) : (Lib.byteCells (wbytes (xs.take k) ++ w4n x j)).length = 4 * k + j := by
  rw [cells_length, List.length_append, wbytes_length, w4n_length, List.length_take]; omega
end

section
/-! The contract of Bytes: of any words that lie in memory, their bytes, one behind the other. -/
open Go.RowKit

theorem grow_int (m : Int) (b : Nat) (w : World) (hbk : w.heap[b]? = some (.cells #[.pointer none, .slice none 0 0] 102 (0, 0))) (hBw : b ≤ w.heap.size) (h0 : 0 ≤ m) (hm : m ≤ 281474976710656) :
    Calls Tryd.prog 71 #[.pointer (some ⟨b, 0, none⟩), .int .i64 m] w fun e w' => e = .returned (.tuple #[]) ∧ (Lib.BuilderAt 102 5 b b (.pointer (some ⟨b, 0, none⟩)) [] w' ∧ Below b w w') := by
  obtain ⟨n, rfl⟩ := Int.eq_ofNat_of_zero_le h0
  exact grow_any b b n w (Nat.le_refl _) hbk hBw (by omega)

set_option maxHeartbeats 1000000 in
set_option maxRecDepth 100000 in
theorem bytes_any (p : Option Addr) (xs : List Int) (cap : Nat) (w : World) (hn : xs.length ≤ 1000000)
    (hx : ∀ (k : Nat) (h : k < xs.length), 0 ≤ xs[k] ∧ xs[k] < 4294967296)
    (hp : xs.length ≠ 0 → ∃ bk o, p = some ⟨bk, o, none⟩ ∧ bk < w.heap.size ∧ ∀ (k : Nat) (h : k < xs.length), w.cell? ⟨bk, o + k, none⟩ = some (.int .u32 xs[k])) :
    Calls Tryd.prog 55 #[.slice p xs.length cap] w fun e w' => e = .returned (.string ⟨(wbytes xs).toArray⟩) ∧ Below w.heap.size w w' := by
  have HP := Lib.hid hp
  have HX := Lib.hid hx
  clear hp hx
  have hb0 : (w.alloc (.cells #[.pointer none, .slice none 0 0] 102)).heap[w.heap.size]? = some (.cells #[.pointer none, .slice none 0 0] 102 (0, 0)) := by
    show (w.heap.push _)[w.heap.size]? = _
    simp
  have HG := Lib.hid (grow_int (4 * (xs.length : Int)) (w.heap.size) (w.alloc (.cells #[.pointer none, .slice none 0 0] 102)) hb0 (by simp) (by omega) (by omega))
  clear hb0
  go_enter Tryd.func55, Tryd.ntmps55
  go_wp2_with (go_at_call 71; refine (HG.out).mono ?_; rintro e w1 ⟨rfl, hI1, hB1⟩)
  have hW0 : Below w.heap.size w w1 := ((Below.refl _ w).alloc (Nat.le_refl _) _).trans hB1
  have hI0 : Lib.IsBuilder 102 5 w.heap.size w.heap.size [] w1 := Or.inr hI1
  clear hI1 hB1
  go_loopw [12] (fun i wr => ∃ k : Nat, k ≤ xs.length ∧ i = .int .i64 k ∧ Lib.IsBuilder 102 5 w.heap.size w.heap.size (Lib.byteCells (wbytes (xs.take k))) wr ∧ Below w.heap.size w wr) (fun i _ => xs.length - (intOf i).toNat)
  case atStart => exact ⟨0, Nat.zero_le _, rfl, hI0, hW0⟩
  case round =>
    obtain ⟨k, hk, rfl, hI, hW⟩ := hrel
    clear hI0 hW0
    by_cases hlt : k < xs.length
    · obtain ⟨bk, o, rfl, hbk, hc⟩ := HP.out (by omega)
      have hx := HX.out k hlt
      have hcell := hc k hlt
      rw [← hW.cell (p := ⟨bk, o + k, none⟩) hbk] at hcell
      have HT := Lib.hid (take_snocI xs k hlt)
      clear hc
      obtain ⟨x, hx0⟩ : ∃ x : Int, x = xs[k] := ⟨_, rfl⟩
      rw [← hx0] at hx hcell
      have HX0 := Lib.hid hx0
      clear hx0
      go_wp2
      obtain ⟨wo, rfl⟩ : ∃ wo : World, wo = wr := ⟨_, rfl⟩
      go_loopw [5, 16] (fun v i wr => ∃ (j : Nat) (y : Int), j ≤ 4 ∧ i = .int .i64 j ∧ v = .int .u32 y ∧ 0 ≤ y ∧ y < 4294967296 ∧ Hid (y = x / 256 ^ j) ∧ Lib.IsBuilder 102 5 w.heap.size w.heap.size (Lib.byteCells (wbytes (xs.take k) ++ w4n x.toNat j)) wr ∧ Below w.heap.size w wr) (fun _ i _ => 4 - (intOf i).toNat)
      case atStart => exact ⟨0, x, by omega, rfl, rfl, hx.1, hx.2, by simp [Hid], by simpa [w4n] using hI, hW⟩
      case round =>
        obtain ⟨j, y, hj, rfl, rfl, hy0, hy1, HY, hJ, hV⟩ := hrel
        clear hI hW hcell
        have hL := Lib.hid (pack_length xs k x.toNat j (by omega))
        by_cases hj4 : j < 4
        · go_wp2_with (go_at_call 72; refine (writeByte_any w.heap.size w.heap.size (Lib.byteCells (wbytes (xs.take k) ++ w4n x.toNat j)) _ wr hJ (by rw [hL.out]; omega) hV.size).mono ?_; rintro e w2 ⟨rfl, hI2, hB2⟩)
          go_roundw
          case rel =>
            rw [pack_step _ x y j hx.1 HY.out] at hI2
            exact ⟨j + 1, y / 256, by omega, by go_num, rfl, by omega, by omega, by rw [HY.out]; exact div_step x j hx.1, Or.inr hI2, hV.trans hB2⟩
          case measure => simp [intOf]; omega
        · go_wp2
          go_roundw
          case rel =>
            have : j = 4 := by omega
            subst this
            rw [show wbytes (xs.take k) ++ w4n x.toNat 4 = wbytes (xs.take (k + 1)) by rw [HT.out, wbytes_snoc, ← HX0.out]; rfl] at hJ
            exact ⟨k + 1, by omega, by go_num, hJ, hV⟩
          case measure => simp [intOf]; omega
    · have : k = xs.length := by omega
      subst this
      rw [List.take_length] at hI
      go_wp2_with (go_at_call 73; refine (string_any w.heap.size w.heap.size (wbytes xs) wr hI hW.size).mono ?_; rintro e w2 ⟨rfl, hB2⟩)
      go_ret
      exact ⟨rfl, hW.trans hB2⟩
end

section
/-! Plain mathematics of bytes as words: four bytes each; what is written is read, what is read is written. No program is named here. -/
/-- The word of four bytes, the lowest first. -/
def fw (a b c d : UInt8) : Int := ((a.toNat + 256 * b.toNat + 65536 * c.toNat + 16777216 * d.toNat : Nat) : Int)
theorem fw_bd (a b c d : UInt8) : 0 ≤ fw a b c d ∧ fw a b c d < 4294967296 := by
  have := a.toNat_lt
  have := b.toNat_lt
  have := c.toNat_lt
  have := d.toNat_lt
  unfold fw; omega
/-- The words of bytes, four each. -/
def wordsR : List UInt8 → List Int
  | a :: b :: c :: d :: l => fw a b c d :: wordsR l
  | _ => []
/-- The word of a number. -/
def wAt (l : List UInt8) (k : Nat) : Int := fw (l.getD (4 * k) 0) (l.getD (4 * k + 1) 0) (l.getD (4 * k + 2) 0) (l.getD (4 * k + 3) 0)
theorem wordsR_length : ∀ l : List UInt8, (wordsR l).length = l.length / 4
  | [] => by simp [wordsR]
  | [_] => by simp [wordsR]
  | [_, _] => by simp [wordsR]
  | [_, _, _] => by simp [wordsR]
  | a :: b :: c :: d :: l => by
    have := wordsR_length l
    simp only [wordsR, List.length_cons, this]
    omega
theorem wordsR_at : ∀ (l : List UInt8) (k : Nat), k < l.length / 4 → (wordsR l)[k]? = some (wAt l k)
  | [], k, h => absurd h (by simp)
  | [_], k, h => absurd h (by simp)
  | [_, _], k, h => absurd h (by simp)
  | [_, _, _], k, h => absurd h (by simp)
  | a :: b :: c :: d :: l, 0, _ => rfl
  | a :: b :: c :: d :: l, k + 1, h => by
    have hk : k < l.length / 4 := by simp only [List.length_cons] at h; omega
    have ih := wordsR_at l k hk
    rw [wordsR, List.getElem?_cons_succ, ih]
    unfold wAt
    rw [show 4 * (k + 1) = 4 * k + 4 by omega, show 4 * k + 4 + 1 = (4 * k + 1) + 4 by omega, show 4 * k + 4 + 2 = (4 * k + 2) + 4 by omega, show 4 * k + 4 + 3 = (4 * k + 3) + 4 by omega]
    rfl
theorem wordsR_take (l : List UInt8) (k : Nat) (h : k < l.length / 4) : (wordsR l).take (k + 1) = (wordsR l).take k ++ [wAt l k] := by
  have hl : k < (wordsR l).length := by rw [wordsR_length]; exact h
  rw [List.take_succ_eq_append_getElem hl]
  have := wordsR_at l k h
  rw [List.getElem?_eq_getElem hl] at this
  rw [Option.some.inj this]
theorem wordsR_bd : ∀ (l : List UInt8) (x : Int), x ∈ wordsR l → 0 ≤ x ∧ x < 4294967296
  | [], x, h => by simp [wordsR] at h
  | [_], x, h => by simp [wordsR] at h
  | [_, _], x, h => by simp [wordsR] at h
  | [_, _, _], x, h => by simp [wordsR] at h
  | a :: b :: c :: d :: l, x, h => by
    rw [wordsR, List.mem_cons] at h
    rcases h with rfl | h
    · exact fw_bd a b c d
    · exact wordsR_bd l x h
theorem w4_four (x : Int) : w4 x = [byteN x.toNat 0, byteN x.toNat 1, byteN x.toNat 2, byteN x.toNat 3] := by
  simp [w4, w4n]
theorem byteN_nat (x j : Nat) : (byteN x j).toNat = x / 256 ^ j % 256 := by
  unfold byteN
  rw [UInt8.toNat_ofNat']; exact Nat.mod_eq_of_lt (by omega)
theorem fw_w4 (x : Int) (h : 0 ≤ x) (h' : x < 4294967296) : fw (byteN x.toNat 0) (byteN x.toNat 1) (byteN x.toNat 2) (byteN x.toNat 3) = x := by
  unfold fw
  rw [byteN_nat, byteN_nat, byteN_nat, byteN_nat]
  omega
theorem byte_eq {a : UInt8} {n : Nat} (h : n = a.toNat) : UInt8.ofNat n = a := by rw [h]; exact UInt8.ofNat_toNat
theorem w4_fw (a b c d : UInt8) : w4 (fw a b c d) = [a, b, c, d] := by
  have := a.toNat_lt
  have := b.toNat_lt
  have := c.toNat_lt
  have := d.toNat_lt
  have e : (fw a b c d).toNat = a.toNat + 256 * b.toNat + 65536 * c.toNat + 16777216 * d.toNat := by unfold fw; omega
  rw [w4_four, e]
  unfold byteN
  rw [byte_eq (a := a) (by omega), byte_eq (a := b) (by omega), byte_eq (a := c) (by omega), byte_eq (a := d) (by omega)]
/-- What is read is written as it was. -/
theorem wbytes_wordsR : ∀ l : List UInt8, l.length % 4 = 0 → wbytes (wordsR l) = l
  | [], _ => rfl
  | [_], h => absurd h (by simp)
  | [_, _], h => absurd h (by simp)
  | [_, _, _], h => absurd h (by simp)
  | a :: b :: c :: d :: l, h => by
    have ih := wbytes_wordsR l (by simp only [List.length_cons] at h; omega)
    rw [wordsR, wbytes_cons, ih, w4_fw]
    rfl
/-- What is written is read as it was. -/
theorem wordsR_wbytes (xs : List Int) (h : ∀ x ∈ xs, 0 ≤ x ∧ x < 4294967296) : wordsR (wbytes xs) = xs := by
  induction xs with
  | nil => rfl
  | cons x xs ih =>
    have hx := h x (by simp)
    rw [wbytes_cons, w4_four]
    show wordsR (byteN x.toNat 0 :: byteN x.toNat 1 :: byteN x.toNat 2 :: byteN x.toNat 3 :: wbytes xs) = x :: xs
    rw [wordsR, fw_w4 x hx.1 hx.2, ih (fun y hy => h y (by simp [hy]))]

/-! Rows of words. -/
def rowU (n : Nat) (f : Nat → Int) : List Value := (List.range n).map fun t => Value.int .u32 (f t)
theorem rowU_length (n : Nat) (f : Nat → Int) : (rowU n f).length = n := by simp [rowU]
theorem rowU_at (n : Nat) (f : Nat → Int) (j : Nat) (h : j < n) : (rowU n f)[j]? = some (.int .u32 (f j)) := by
  simp [rowU, List.getElem?_map, List.getElem?_range h]
theorem rowU_congr (n : Nat) (f g : Nat → Int) (h : ∀ t, t < n → f t = g t) : rowU n f = rowU n g := by
  unfold rowU
  apply List.map_congr_left
  intro t ht
  rw [h t (List.mem_range.mp ht)]
theorem rowU_set (n : Nat) (f : Nat → Int) (j : Nat) (v : Int) : (rowU n f).set j (.int .u32 v) = rowU n (fun t => if t = j then v else f t) := by
  apply List.ext_getElem?
  intro t
  rw [List.getElem?_set]
  by_cases ht : t < n
  · rw [rowU_at n _ t ht]
    by_cases hj : j = t
    · subst hj; rw [if_pos rfl, if_pos (by rw [rowU_length]; exact ht), rowU_at n _ j ht, if_pos rfl]
    · have : ¬ t = j := fun q => hj q.symm
      rw [if_neg hj, rowU_at n _ t ht, if_neg this]
  · have e1 : (rowU n f)[t]? = none := List.getElem?_eq_none (by rw [rowU_length]; omega)
    have e2 : (rowU n (fun t => if t = j then v else f t))[t]? = none := List.getElem?_eq_none (by rw [rowU_length]; omega)
    rw [e1, e2]
    by_cases hj : j = t
    · subst hj; simp [rowU_length, ht]
    · simp [hj]
/-- What is left of the first j words done, the others 0. -/
def doneF (f : Nat → Int) (j t : Nat) : Int := if t < j then f t else 0
theorem doneF_step (n : Nat) (f : Nat → Int) (j : Nat) : (rowU n (doneF f j)).set j (.int .u32 (f j)) = rowU n (doneF f (j + 1)) := by
  rw [rowU_set]
  apply rowU_congr
  intro t _
  unfold doneF
  by_cases h : t = j
  · subst h; simp
  · by_cases h2 : t < j
    · rw [if_neg h, if_pos h2, if_pos (by omega)]
    · rw [if_neg h, if_neg h2, if_neg (by omega)]
theorem rowU_words (l : List UInt8) (n : Nat) (h : l.length / 4 = n) : rowU n (doneF (wAt l) n) = (wordsR l).map (Value.int .u32) := by
  apply List.ext_getElem?
  intro t
  rw [List.getElem?_map]
  by_cases ht : t < n
  · rw [rowU_at n _ t ht, wordsR_at l t (by omega)]
    simp [doneF, ht]
  · rw [List.getElem?_eq_none (by rw [rowU_length]; omega), List.getElem?_eq_none (by rw [wordsR_length]; omega)]
    rfl
theorem wAt_drop (l : List UInt8) (k : Nat) : wAt (l.drop (4 * k)) 0 = wAt l k := by
  unfold wAt
  simp only [List.getD, List.getElem?_drop, Nat.mul_zero, Nat.zero_add, Nat.add_zero]

/-! What 'or' makes of four bytes at their places. -/
theorem join_lo (i y x : Nat) (hi : i ≤ 32) (hy : y < 2 ^ i) (hx : x % 2 ^ i = 0) (hx' : x < 4294967296) : bits .or .u32 (y : Int) (x : Int) = ((y + x : Nat) : Int) := by
  have hle : 2 ^ i ≤ 4294967296 := by
    have : 2 ^ i ≤ 2 ^ 32 := Nat.pow_le_pow_right (by decide) hi
    exact this
  have h1 := (bits_nat .u32 32 (by decide) wraps_u32 y x (by omega) (by omega)).2
  rw [h1, Nat.or_comm]
  have hq : x = 2 ^ i * (x / 2 ^ i) := by
    have := Nat.div_add_mod x (2 ^ i)
    omega
  have h2 : x ||| y = x + y := by
    rw [hq, ← Nat.two_pow_add_eq_or_of_lt hy (x / 2 ^ i)]
  rw [h2, Nat.add_comm]
theorem or_four (a b c d : UInt8) :
    bits .or .u32 (bits .or .u32 (bits .or .u32 ((a.toNat : Int) % 4294967296) ((b.toNat : Int) % 4294967296 * 256 % 4294967296)) ((c.toNat : Int) % 4294967296 * 65536 % 4294967296)) ((d.toNat : Int) % 4294967296 * 16777216 % 4294967296) = fw a b c d := by
  have ha := a.toNat_lt
  have hb := b.toNat_lt
  have hc := c.toNat_lt
  have hd := d.toNat_lt
  have e0 : (a.toNat : Int) % 4294967296 = (a.toNat : Nat) := by omega
  have e1 : (b.toNat : Int) % 4294967296 * 256 % 4294967296 = ((256 * b.toNat : Nat) : Int) := by omega
  have e2 : (c.toNat : Int) % 4294967296 * 65536 % 4294967296 = ((65536 * c.toNat : Nat) : Int) := by omega
  have e3 : (d.toNat : Int) % 4294967296 * 16777216 % 4294967296 = ((16777216 * d.toNat : Nat) : Int) := by omega
  rw [e0, e1, e2, e3, join_lo 8 a.toNat (256 * b.toNat) (by omega) (by omega) (by omega) (by omega), join_lo 16 _ (65536 * c.toNat) (by omega) (by omega) (by omega) (by omega),
    join_lo 24 _ (16777216 * d.toNat) (by omega) (by omega) (by omega) (by omega)]
  rfl
end

section
/-! The contract of first: the word at the beginning of a text. -/
open Go.RowKit

theorem ret_intF {k : IntKind} {a b : Int} (h : a = b) : Ending.returned (.int k a) = .returned (.int k b) := by rw [h]
theorem getD_at (t : ByteArray) (j : Nat) (h : j < t.size) : t.data.toList.getD j 0 = t[j] := by
  have h' : j < t.data.toList.length := by rw [len_toList]; exact h
  simp [List.getD, List.getElem?_eq_getElem h']
  rfl
set_option maxHeartbeats 1000000 in
theorem first_any (t : ByteArray) (w : World) (ht : t.size ≤ maxLen) (h4 : 4 ≤ t.size) :
    Calls Tryd.prog 89 #[.string t] w fun e w' => e = .returned (.int .u32 (wAt t.data.toList 0)) ∧ ∃ n, w' = w.drewN n := by
  unfold maxLen at ht
  have i0 : (0 : Int) < t.size := by omega
  have i1 : (1 : Int) < t.size := by omega
  have i2 : (2 : Int) < t.size := by omega
  have i3 : (3 : Int) < t.size := by omega
  have n0 : 0 < t.size := by omega
  have n1 : 1 < t.size := by omega
  have n2 : 2 < t.size := by omega
  have n3 : 3 < t.size := by omega
  have HF : Hid (wAt t.data.toList 0 = fw t[0] t[1] t[2] t[3]) := by
    show wAt t.data.toList 0 = _
    unfold wAt
    rw [← getD_at t 0 n0, ← getD_at t 1 n1, ← getD_at t 2 n2, ← getD_at t 3 n3]
  have HO := Lib.hid (or_four t[0] t[1] t[2] t[3])
  go_enter Tryd.func89, Tryd.ntmps89
  go_wp2
  go_quiet (fail)
  go_wp2
  go_ret
  exact ⟨ret_intF (by rw [HF.out]; exact HO.out), _, rfl⟩
end

section
/-! The contract of Words: bytes as words, four each; none, and the error, of bytes that are no whole words. -/
open Go.RowKit

theorem info_u32 : (Tryd.prog.info? 22).map (fun i => (i.zero, i.size, i.bytes)) = some (some (.int .u32 0), 1, 4) := by kernel_rfl
/-- The cells of words. -/
def wCells (xs : List Int) : List Value := xs.map (Value.int .u32)
/-- A row of words that the call owns. -/
def OwnsW (B : Nat) (v : Value) (xs : List Int) (w : World) : Prop := w.ownsRow B 22 1 v xs.length (wCells xs)

theorem words_form (s : ByteArray) (w : World) (hs : s.size ≤ maxLen) (h : s.size % 4 ≠ 0) :
    Calls Tryd.prog 79 #[.string s] w fun e w' => e = .returned (.tuple #[.slice none 0 0, .int .i64 7]) ∧ w = w' := by
  unfold maxLen at hs
  have h0 : ((s.size : Int) % 4 == 0) = false := by simp; omega
  have h1 : ((s.size : Int) % 4 != 0) = true := by simp; omega
  go_enter Tryd.func79, Tryd.ntmps79
  go_wp2
  go_ret2
  exact ⟨rfl, rfl⟩

set_option maxHeartbeats 1000000 in
set_option maxRecDepth 100000 in
theorem words_ok (s : ByteArray) (w : World) (hs : s.size ≤ 1000000) (h : s.size % 4 = 0) :
    Calls Tryd.prog 79 #[.string s] w fun e w' => ∃ v, e = .returned (.tuple #[v, .int .i64 0]) ∧ OwnsW w.heap.size v (wordsR s.data.toList) w' ∧ Below w.heap.size w w' := by
  obtain ⟨i0, hi, hz0, hz1, hz2⟩ := info_parts info_u32
  obtain ⟨n, hn⟩ : ∃ n : Nat, s.size = 4 * n := ⟨s.size / 4, by omega⟩
  have h0 : ((s.size : Int) % 4 == 0) = true := by simp; omega
  have h1 : ((s.size : Int) % 4 != 0) = false := by simp; omega
  have hq : (s.size : Int) / 4 = (n : Int) := by omega
  have hn1 : n ≤ 250000 := by omega
  have HN := Lib.hid hn
  clear hn h
  go_enter Tryd.func79, Tryd.ntmps79
  go_wp2_with (at_make; refine wpList_make_full _ rfl _ _ 72 rfl w.heap.size 22 i0 (.int .u32 0) 1 Tryd.underlying72 hi hz0 hz1 .i64 .i64 _ _ n rfl rfl rfl rfl (by rw [hz2]; omega) (by unfold maxLen; omega) (Nat.le_refl _) ?_; intro w1 hown hg)
  have hW : Below w.heap.size w w1 := (Below.refl _ _).grown hg (Nat.le_refl _) (fun k hk => by cases hk)
  have hz : (madeCells (Value.int IntKind.u32 0).cells (n * 1)).toList = rowU n (doneF (wAt s.data.toList) 0) := by
    show (madeCells #[Value.int IntKind.u32 0] (n * 1)).toList = _
    rw [toList_madeCells_one, Nat.mul_one]
    symm
    rw [List.eq_replicate_iff]
    refine ⟨rowU_length _ _, fun u hu => ?_⟩
    unfold rowU at hu
    obtain ⟨t, _, ht⟩ := List.mem_map.mp hu
    rw [← ht]; simp [doneF]
  rw [hz] at hown
  clear hz hg
  go_loopw [16] (fun i wr => ∃ k : Nat, k ≤ n ∧ i = .int .i64 k ∧ wr.ownsRow w.heap.size 22 1 (.slice (some ⟨w.heap.size, 0, none⟩) n n) n (rowU n (doneF (wAt s.data.toList) k)) ∧ Below w.heap.size w wr) (fun i _ => n - (intOf i).toNat)
  case atStart => exact ⟨0, Nat.zero_le _, rfl, hown, hW⟩
  case round =>
    obtain ⟨k, hk, rfl, hown, hW⟩ := hrel
    by_cases hlt : k < n
    · have hsz : 4 * k + 4 ≤ s.size := by have := HN.out; omega
      have c0 : wr.cell? ⟨w.heap.size, k, none⟩ = some (.int .u32 (doneF (wAt s.data.toList) k k)) := by
        rw [hown.cellAt k (by omega), rowU_at n _ k hlt]
      have f0 := hown.frozenAt k
      have HE : Hid (wAt (s.extract (4 * k) s.size).data.toList 0 = wAt s.data.toList k) := by
        show wAt (s.extract (4 * k) s.size).data.toList 0 = _
        rw [Lib.extract_to_end, wAt_drop]
      have he : (s.extract (4 * k) s.size).size = s.size - 4 * k := by simp
      have HS1 := Lib.hid (show (s.extract (4 * k) s.size).size ≤ maxLen by rw [he]; unfold maxLen; omega)
      have HS2 := Lib.hid (show 4 ≤ (s.extract (4 * k) s.size).size by rw [he]; omega)
      clear he
      go_wp2_with fail
      refine (first_any (s.extract (4 * k) s.size) wr HS1.out HS2.out).mono ?_
      rw [HE.out]
      rintro e w2 ⟨rfl, nq, rfl⟩
      go_wp2
      go_roundw
      case rel =>
        have h : (wr.drewN nq).ownsRow w.heap.size 22 1 (.slice (some ⟨w.heap.size, 0, none⟩) n n) n (rowU n (doneF (wAt s.data.toList) k)) := hown
        refine ⟨k + 1, by omega, by go_num, ?_, (below_drewN hW nq).setCell (p := ⟨w.heap.size, k, none⟩) (Nat.le_refl _) _⟩
        rw [← doneF_step]
        exact (h.stored k _).1
      case measure => simp [intOf]; omega
    · have : k = n := by omega
      subst this
      go_wp2
      go_ret2
      have hl : s.data.toList.length / 4 = k := by rw [len_toList]; have := HN.out; omega
      refine ⟨_, rfl, ?_, hW⟩
      unfold OwnsW wCells
      rw [wordsR_length, hl, ← rowU_words _ k hl]
      exact hown
end

section
/-! The contract of the document's own Words. -/
open Go.RowKit

/-- What the bytes from the high end make of a word, so many of them. -/
def pm (l : List UInt8) (k : Nat) : Nat → Nat
  | 0 => 0
  | m + 1 => pm l k m * 256 + (l.getD (4 * k + (3 - m)) 0).toNat
theorem pm_lt (l : List UInt8) (k m : Nat) : pm l k m < 256 ^ m := by
  induction m with
  | zero => exact Nat.one_pos
  | succ m ih =>
    have := (l.getD (4 * k + (3 - m)) 0).toNat_lt
    rw [Nat.pow_succ]
    show pm l k m * 256 + (l.getD (4 * k + (3 - m)) 0).toNat < _
    omega
theorem pm_four (l : List UInt8) (k : Nat) : ((pm l k 4 : Nat) : Int) = wAt l k := by
  simp only [pm, wAt, fw, Nat.sub_self, Nat.add_zero, Nat.sub_zero, show 3 - 2 = 1 from rfl, show 3 - 1 = 2 from rfl]
  omega

theorem refWords_form (s : ByteArray) (w : World) (hs : s.size ≤ maxLen) (h : s.size % 4 ≠ 0) :
    Calls Tryd.prog 64 #[.string s] w fun e w' => e = .returned (.tuple #[.slice none 0 0, .int .i64 7]) ∧ w = w' := by
  unfold maxLen at hs
  have h0 : ((s.size : Int) % 4 == 0) = false := by simp; omega
  have h1 : ((s.size : Int) % 4 != 0) = true := by simp; omega
  go_enter Tryd.func64, Tryd.ntmps64
  go_wp2
  go_ret2
  exact ⟨rfl, rfl⟩

set_option maxHeartbeats 1000000 in
set_option maxRecDepth 100000 in
theorem refWords_ok (s : ByteArray) (w : World) (hs : s.size ≤ 1000000) (h : s.size % 4 = 0) :
    Calls Tryd.prog 64 #[.string s] w fun e w' => ∃ v, e = .returned (.tuple #[v, .int .i64 0]) ∧ OwnsW w.heap.size v (wordsR s.data.toList) w' ∧ Below w.heap.size w w' := by
  obtain ⟨i0, hi, hz0, hz1, hz2⟩ := info_parts info_u32
  obtain ⟨n, hn⟩ : ∃ n : Nat, s.size = 4 * n := ⟨s.size / 4, by omega⟩
  have h0 : ((s.size : Int) % 4 == 0) = true := by simp; omega
  have h1 : ((s.size : Int) % 4 != 0) = false := by simp; omega
  have hq : (s.size : Int) / 4 = (n : Int) := by omega
  have hn1 : n ≤ 250000 := by omega
  have HN := Lib.hid hn
  clear hn h
  go_enter Tryd.func64, Tryd.ntmps64
  go_wp2_with (at_make; refine wpList_make_own _ rfl _ _ 72 rfl w.heap.size 22 i0 (.int .u32 0) 1 Tryd.underlying72 hi hz0 hz1 .i64 .i64 _ n rfl rfl rfl (by rw [hz2]; omega) (by unfold maxLen; omega) (Nat.le_refl _) ?_; intro w1 hown hg)
  have hW : Below w.heap.size w w1 := (Below.refl _ _).grown hg (Nat.le_refl _) (fun k hk => by cases hk)
  clear hg h0 h1 hq
  go_loopw [4, 5] (fun v i wr => ∃ k : Nat, k ≤ n ∧ i = .int .i64 (4 * (k : Int)) ∧ wr.ownsRow w.heap.size 22 1 v k (wCells ((wordsR s.data.toList).take k)) ∧ Below w.heap.size w wr) (fun _ i _ => 4 * n - (intOf i).toNat)
  case atStart => exact ⟨0, Nat.zero_le _, rfl, hown, hW⟩
  case round =>
    clear hown hW
    obtain ⟨k, hk, rfl, hownr, hW⟩ := hrel
    by_cases hlt : k < n
    · have hsz : 4 * k + 4 ≤ s.size := by have := HN.out; omega
      have hdt : decide (4 * (k : Int) < (s.size : Int)) = true := by simp; omega
      go_wp2
      clear hdt
      go_loop [6, 7] (fun v i => ∃ (j : Nat) (y : Int), j ≤ 4 ∧ i = .int .i64 ((j : Int) - 1) ∧ v = .int .u32 y ∧ 0 ≤ y ∧ y < 4294967296 ∧ Hid (y = ((pm s.data.toList k (4 - j) : Nat) : Int))) (fun _ i => (intOf i + 1).toNat)
      case atStart => exact ⟨4, 0, by omega, rfl, rfl, by omega, by omega, Lib.hid rfl⟩
      case round =>
        obtain ⟨j, y, hj, rfl, rfl, hy0, hy1, HY⟩ := hrel
        cases j with
        | zero =>
          have hyw : Hid (y = wAt s.data.toList k) := HY.out.trans (pm_four _ _)
          go_wp2_with (at_builtin; refine wpList_append_own _ rfl _ _ 72 rfl w.heap.size 22 i0 (.int .u32 0) 1 4 Tryd.underlying72 hi hz0 hz1 hz2 rfl (by decide) _ _ _ rfl (hownr.alloc _) ⟨wr.heap.size, 0, none⟩ 1 1 [.int .u32 y] rfl rfl ?c1 ?c2 ?c3 ?c4 ?c5 ?_)
          case c2 => rfl
          case c3 => unfold maxLen; omega
          case c4 => omega
          case c5 => have := hW.size; omega
          intro v' w2 hown' hgrow _
          have hV : Below w.heap.size w w2 := (hW.alloc hW.size _).grown hgrow (by have := hW.size; simp; omega) (fun k hk => (hownr.lt k hk).1)
          have hl : s.data.toList.length / 4 = n := by rw [len_toList]; have := HN.out; omega
          rw [show wCells ((wordsR s.data.toList).take k) ++ [.int .u32 y] = wCells ((wordsR s.data.toList).take (k + 1)) by rw [wordsR_take _ k (by omega), hyw.out]; simp [wCells]] at hown'
          clear hgrow hownr hW hl
          go_wp2
          go_roundw
          case rel => exact ⟨k + 1, by omega, by go_num, hown', hV⟩
          case measure => simp [intOf]; omega
        | succ j =>
          have hjj : ((j + 1 : Nat) : Int) - 1 = (j : Int) := by omega
          have hix : 4 * k + j < s.size := by omega
          have hb := (s[4 * k + j]).toNat_lt
          have hstep : Hid (y * 256 + ((s[4 * k + j]).toNat : Int) = ((pm s.data.toList k (4 - j) : Nat) : Int)) := by
            show y * 256 + ((s[4 * k + j]).toNat : Int) = _
            rw [HY.out, show 4 - j = (4 - (j + 1)) + 1 by omega]
            show _ = ((pm s.data.toList k (4 - (j + 1)) * 256 + (s.data.toList.getD (4 * k + (3 - (4 - (j + 1)))) 0).toNat : Nat) : Int)
            rw [show 4 * k + (3 - (4 - (j + 1))) = 4 * k + j by omega, getD_at s _ hix]
            omega
          have hy2 : y * 256 + ((s[4 * k + j]).toNat : Int) < 4294967296 := by
            rw [hstep.out]
            have h1 := pm_lt s.data.toList k (4 - j)
            have h2 : 256 ^ (4 - j) ≤ 256 ^ 4 := Nat.pow_le_pow_right (by decide) (by omega)
            have h3 : 256 ^ 4 = 4294967296 := by decide
            omega
          go_wp2
          go_round
          case rel => exact ⟨j, _, by omega, rfl, rfl, by omega, hy2, hstep⟩
          case measure => simp [intOf]
    · have : k = n := by omega
      subst this
      have hdf : decide (4 * (k : Int) < (s.size : Int)) = false := by have := HN.out; simp; omega
      have hge : (s.size : Int) ≤ 4 * (k : Int) := by have := HN.out; omega
      go_wp2
      go_ret2
      have hl : s.data.toList.length / 4 = k := by rw [len_toList]; have := HN.out; omega
      refine ⟨_, rfl, ?_, hW⟩
      have ht := List.take_of_length_le (l := wordsR s.data.toList) (i := k) (by rw [wordsR_length, hl]; exact Nat.le_refl _)
      rw [ht] at hownr
      unfold OwnsW
      rw [wordsR_length, hl]
      exact hownr
end

section
/-! The contract of the document's own Turn (as in layer 1). -/
open Go.RowKit

theorem ret_intT {k : IntKind} {a b : Int} (h : a = b) : Ending.returned (.int k a) = .returned (.int k b) := by rw [h]
theorem rotI_congr (a n m : Int) (h : n % 32 = m % 32) : rotI a n = rotI a m := by unfold rotI; rw [h]
theorem rotI_add (a n m : Int) (ha : 0 ≤ a) (ha' : a < 4294967296) : rotI (rotI a n) m = rotI a (n + m) := by
  obtain ⟨x, rfl⟩ := Int.eq_ofNat_of_zero_le ha
  have hx : x < 4294967296 := by omega
  show ((rotN ((rotN ((x : Int)).toNat (n % 32).toNat : Nat) : Int).toNat (m % 32).toNat : Nat) : Int) = (rotN ((x : Int)).toNat ((n + m) % 32).toNat : Nat)
  rw [Int.toNat_natCast, Int.toNat_natCast, rotN_add, rotN_mod x _ hx]
  have : ((n % 32).toNat + (m % 32).toNat) % 32 = ((n + m) % 32).toNat := by omega
  rw [this]
theorem rotI_zero (a n : Int) (ha : 0 ≤ a) (h : n % 32 = 0) : rotI a n = a := by
  obtain ⟨x, rfl⟩ := Int.eq_ofNat_of_zero_le ha
  unfold rotI
  rw [h]; rfl
theorem tmod_facts (n : Int) : -32 < n.tmod 32 ∧ n.tmod 32 < 32 ∧ n.tmod 32 % 32 = n % 32 ∧ (n < 0 → n.tmod 32 ≤ 0) := by
  have h1 := Int.mul_tdiv_add_tmod n 32
  have h2 := Int.tmod_lt_of_pos n (show (0 : Int) < 32 by decide)
  have h3 := Int.lt_tmod_of_pos n (show (0 : Int) < 32 by decide)
  refine ⟨h3, h2, by omega, fun h => ?_⟩
  have h4 : (-n).tmod 32 = -(n.tmod 32) := Int.neg_tmod n 32
  have h5 := Int.tmod_nonneg 32 (show (0 : Int) ≤ -n by omega)
  omega
theorem st_cast (x : Nat) : ((st x : Nat) : Int) = 2 * (x : Int) % 4294967296 + (x : Int) / 2147483648 := by
  unfold st; omega

set_option maxHeartbeats 400000 in
theorem refTurn_pos (a n k : Int) (w : World) (ha : 0 ≤ a) (ha' : a < 4294967296) (hk0 : 0 ≤ k) (_hk1 : k < 32) (hn : 0 ≤ n) (hkn : n % 32 = k) (HK : Hid (rotI a n = (rotN a.toNat k.toNat : Nat))) :
    Calls Tryd.prog 88 #[.int .u32 a, .int .i64 n] w fun e w' => e = .returned (.int .u32 (rotI a n)) ∧ w = w' := by
  go_enter Tryd.func88, Tryd.ntmps88
  go_wp2
  go_loop [6, 7] (fun v i => ∃ (j : Nat) (y : Int), (j : Int) ≤ k ∧ i = .int .i64 j ∧ v = .int .u64 y ∧ 0 ≤ y ∧ y < 4294967296 ∧ Hid (y = (rotN a.toNat j : Nat))) (fun _ i => 32 - (intOf i).toNat)
  case atStart => exact ⟨0, a, by omega, rfl, rfl, ha, ha', by show a = (a.toNat : Int); omega⟩
  case round =>
    obtain ⟨j, y, hj, rfl, rfl, hy0, hy1, HY⟩ := hrel
    by_cases hlt : (j : Int) < k
    · go_wp2
      go_round
      case rel => exact ⟨j + 1, 2 * y % 4294967296 + y / 2147483648, by omega, by go_num, rfl, by omega, by omega, by rw [HY.out]; exact (st_cast _).symm⟩
      case measure => simp [intOf]; omega
    · have hjk : (j : Int) = k := by omega
      have HJ := Lib.hid hjk
      clear hjk
      go_wp2
      go_ret
      refine ⟨ret_intT ?_, rfl⟩
      rw [HY.out, HK.out]
      have := HJ.out
      rw [show j = k.toNat by omega]
set_option maxHeartbeats 400000 in
theorem refTurn_neg (a n k : Int) (w : World) (ha : 0 ≤ a) (ha' : a < 4294967296) (hk0 : 0 ≤ k) (_hk1 : k < 32) (r : Int) (hr : n.tmod 32 = r) (hr0 : r < 0) (hr1 : -32 < r) (hkr : r + 32 = k) (HK : Hid (rotI a n = (rotN a.toNat k.toNat : Nat))) :
    Calls Tryd.prog 88 #[.int .u32 a, .int .i64 n] w fun e w' => e = .returned (.int .u32 (rotI a n)) ∧ w = w' := by
  go_enter Tryd.func88, Tryd.ntmps88
  go_wp2
  go_loop [6, 7] (fun v i => ∃ (j : Nat) (y : Int), (j : Int) ≤ k ∧ i = .int .i64 j ∧ v = .int .u64 y ∧ 0 ≤ y ∧ y < 4294967296 ∧ Hid (y = (rotN a.toNat j : Nat))) (fun _ i => 32 - (intOf i).toNat)
  case atStart => exact ⟨0, a, by omega, rfl, rfl, ha, ha', by show a = (a.toNat : Int); omega⟩
  case round =>
    obtain ⟨j, y, hj, rfl, rfl, hy0, hy1, HY⟩ := hrel
    by_cases hlt : (j : Int) < k
    · go_wp2
      go_round
      case rel => exact ⟨j + 1, 2 * y % 4294967296 + y / 2147483648, by omega, by go_num, rfl, by omega, by omega, by rw [HY.out]; exact (st_cast _).symm⟩
      case measure => simp [intOf]; omega
    · have hjk : (j : Int) = k := by omega
      have HJ := Lib.hid hjk
      clear hjk
      go_wp2
      go_ret
      refine ⟨ret_intT ?_, rfl⟩
      rw [HY.out, HK.out]
      have := HJ.out
      rw [show j = k.toNat by omega]
set_option maxHeartbeats 400000 in
theorem refTurn_nil (a n k : Int) (w : World) (ha : 0 ≤ a) (ha' : a < 4294967296) (hk0 : 0 ≤ k) (_hk1 : k < 32) (_hn : n < 0) (hr : n.tmod 32 = k) (HK : Hid (rotI a n = (rotN a.toNat k.toNat : Nat))) :
    Calls Tryd.prog 88 #[.int .u32 a, .int .i64 n] w fun e w' => e = .returned (.int .u32 (rotI a n)) ∧ w = w' := by
  go_enter Tryd.func88, Tryd.ntmps88
  go_wp2
  go_loop [6, 7] (fun v i => ∃ (j : Nat) (y : Int), (j : Int) ≤ k ∧ i = .int .i64 j ∧ v = .int .u64 y ∧ 0 ≤ y ∧ y < 4294967296 ∧ Hid (y = (rotN a.toNat j : Nat))) (fun _ i => 32 - (intOf i).toNat)
  case atStart => exact ⟨0, a, by omega, rfl, rfl, ha, ha', by show a = (a.toNat : Int); omega⟩
  case round =>
    obtain ⟨j, y, hj, rfl, rfl, hy0, hy1, HY⟩ := hrel
    by_cases hlt : (j : Int) < k
    · go_wp2
      go_round
      case rel => exact ⟨j + 1, 2 * y % 4294967296 + y / 2147483648, by omega, by go_num, rfl, by omega, by omega, by rw [HY.out]; exact (st_cast _).symm⟩
      case measure => simp [intOf]; omega
    · have hjk : (j : Int) = k := by omega
      have HJ := Lib.hid hjk
      clear hjk
      go_wp2
      go_ret
      refine ⟨ret_intT ?_, rfl⟩
      rw [HY.out, HK.out]
      have := HJ.out
      rw [show j = k.toNat by omega]
theorem refTurn_any (a n : Int) (w : World) (ha : 0 ≤ a) (ha' : a < 4294967296) :
    Calls Tryd.prog 88 #[.int .u32 a, .int .i64 n] w fun e w' => e = .returned (.int .u32 (rotI a n)) ∧ w = w' := by
  by_cases hn : 0 ≤ n
  · exact refTurn_pos a n (n % 32) w ha ha' (by omega) (by omega) hn rfl rfl
  · obtain ⟨h1, h2, h3, h4⟩ := tmod_facts n
    have h5 := h4 (by omega)
    by_cases hz : n.tmod 32 = 0
    · exact refTurn_nil a n 0 w ha ha' (by omega) (by omega) (by omega) hz (by show rotI a n = _; unfold rotI; rw [show n % 32 = 0 by omega])
    · exact refTurn_neg a n (n % 32) w ha ha' (by omega) (by omega) (n.tmod 32) rfl (by omega) h1 (by omega) rfl
end

end Go.Proofs.YtdphhpmkcalahaaDoor
