/-
  The contracts of layer 1's operations: what Apply answers of any number of an operation and of any two words, case by case; what divide, truth and of answer.
-/
import Derived.Test.YtefgaboalbaapaaDoorProg
import Derived.Test.YtefgaboalbaapaaDoorPlain
import Derived.WalkKit
import Derived.BigQuiet
namespace Go.Proofs.YtefgaboalbaapaaDoor
open Go.RowKit

theorem ret2_eq {k l : IntKind} {a b c d : Int} (h : a = b) (h' : c = d) : Ending.returned (.tuple #[.int k a, .int l c]) = .returned (.tuple #[.int k b, .int l d]) := by rw [h, h']

theorem divide_7 (a b : Int) (w : World) (ha : 0 ≤ a) (ha' : a < 4294967296) (hb : 1 ≤ b) (hb' : b < 4294967296) :
    Calls Tryd.prog 26 #[.int .i64 7, .int .u32 a, .int .u32 b] w fun e w' => e = .returned (.tuple #[.int .u32 (a / b), .int .i64 0]) ∧ w = w' := by
  have hz : (b == 0) = false := by simp; omega
  go_enter Tryd.func26, Tryd.ntmps26
  go_wp2
  go_ret2
  exact ⟨rfl, rfl⟩
theorem divide_8 (a b : Int) (w : World) (ha : 0 ≤ a) (ha' : a < 4294967296) (hb : 1 ≤ b) (hb' : b < 4294967296) :
    Calls Tryd.prog 26 #[.int .i64 8, .int .u32 a, .int .u32 b] w fun e w' => e = .returned (.tuple #[.int .u32 (a % b), .int .i64 0]) ∧ w = w' := by
  have hz : (b == 0) = false := by simp; omega
  go_enter Tryd.func26, Tryd.ntmps26
  go_wp2
  go_ret2
  exact ⟨rfl, rfl⟩
theorem divide_0 (op a b : Int) (w : World) (hb : b = 0) :
    Calls Tryd.prog 26 #[.int .i64 op, .int .u32 a, .int .u32 b] w fun e w' => e = .returned (.tuple #[.int .u32 0, .int .i64 14]) ∧ w = w' := by
  subst hb
  go_enter Tryd.func26, Tryd.ntmps26
  go_wp2
  go_ret2
  exact ⟨rfl, rfl⟩
theorem truth_yes (w : World) : Calls Tryd.prog 27 #[.bool true] w fun e w' => e = .returned (.int .u32 1) ∧ w = w' := by
  go_enter Tryd.func27, Tryd.ntmps27
  go_wp2
  go_ret
  exact ⟨rfl, rfl⟩
theorem truth_no (w : World) : Calls Tryd.prog 27 #[.bool false] w fun e w' => e = .returned (.int .u32 0) ∧ w = w' := by
  go_enter Tryd.func27, Tryd.ntmps27
  go_wp2
  go_ret
  exact ⟨rfl, rfl⟩

theorem apply_4 (a b : Int) (w : World) (_ha : 0 ≤ a) (_ha' : a < 4294967296) (_hb : 0 ≤ b) (_hb' : b < 4294967296) : Calls Tryd.prog 12 #[.int .i64 4, .int .u32 a, .int .u32 b] w fun e w' => e = .returned (.tuple #[.int .u32 ((a + b) % 4294967296), .int .i64 0]) ∧ w = w' := by
  go_enter Tryd.func12, Tryd.ntmps12
  go_wp2
  go_ret2
  exact ⟨rfl, rfl⟩
theorem apply_5 (a b : Int) (w : World) (_ha : 0 ≤ a) (_ha' : a < 4294967296) (_hb : 0 ≤ b) (_hb' : b < 4294967296) : Calls Tryd.prog 12 #[.int .i64 5, .int .u32 a, .int .u32 b] w fun e w' => e = .returned (.tuple #[.int .u32 ((a - b) % 4294967296), .int .i64 0]) ∧ w = w' := by
  go_enter Tryd.func12, Tryd.ntmps12
  go_wp2
  go_ret2
  exact ⟨ret2_eq (by omega) rfl, rfl⟩
theorem apply_6 (a b : Int) (w : World) (_ha : 0 ≤ a) (_ha' : a < 4294967296) (_hb : 0 ≤ b) (_hb' : b < 4294967296) : Calls Tryd.prog 12 #[.int .i64 6, .int .u32 a, .int .u32 b] w fun e w' => e = .returned (.tuple #[.int .u32 ((a * b) % 4294967296), .int .i64 0]) ∧ w = w' := by
  go_enter Tryd.func12, Tryd.ntmps12
  go_wp2
  go_ret2
  exact ⟨rfl, rfl⟩
theorem apply_9 (a b : Int) (w : World) (_ha : 0 ≤ a) (_ha' : a < 4294967296) (_hb : 0 ≤ b) (_hb' : b < 4294967296) : Calls Tryd.prog 12 #[.int .i64 9, .int .u32 a, .int .u32 b] w fun e w' => e = .returned (.tuple #[.int .u32 (bits .and .u32 a b), .int .i64 0]) ∧ w = w' := by
  go_enter Tryd.func12, Tryd.ntmps12
  go_wp2
  go_ret2
  exact ⟨rfl, rfl⟩
theorem apply_10 (a b : Int) (w : World) (_ha : 0 ≤ a) (_ha' : a < 4294967296) (_hb : 0 ≤ b) (_hb' : b < 4294967296) : Calls Tryd.prog 12 #[.int .i64 10, .int .u32 a, .int .u32 b] w fun e w' => e = .returned (.tuple #[.int .u32 (bits .or .u32 a b), .int .i64 0]) ∧ w = w' := by
  go_enter Tryd.func12, Tryd.ntmps12
  go_wp2
  go_ret2
  exact ⟨rfl, rfl⟩
theorem apply_11 (a b : Int) (w : World) (_ha : 0 ≤ a) (_ha' : a < 4294967296) (_hb : 0 ≤ b) (_hb' : b < 4294967296) : Calls Tryd.prog 12 #[.int .i64 11, .int .u32 a, .int .u32 b] w fun e w' => e = .returned (.tuple #[.int .u32 (bits .xor .u32 a b), .int .i64 0]) ∧ w = w' := by
  go_enter Tryd.func12, Tryd.ntmps12
  go_wp2
  go_ret2
  exact ⟨rfl, rfl⟩
theorem apply_12 (a b : Int) (w : World) (_ha : 0 ≤ a) (_ha' : a < 4294967296) (_hb : 0 ≤ b) (_hb' : b < 4294967296) : Calls Tryd.prog 12 #[.int .i64 12, .int .u32 a, .int .u32 b] w fun e w' => e = .returned (.tuple #[.int .u32 (a * 2 ^ min b.toNat 32 % 4294967296), .int .i64 0]) ∧ w = w' := by
  go_enter Tryd.func12, Tryd.ntmps12
  go_wp2
  go_ret2
  exact ⟨rfl, rfl⟩
theorem apply_13 (a b : Int) (w : World) (_ha : 0 ≤ a) (_ha' : a < 4294967296) (_hb : 0 ≤ b) (_hb' : b < 4294967296) : Calls Tryd.prog 12 #[.int .i64 13, .int .u32 a, .int .u32 b] w fun e w' => e = .returned (.tuple #[.int .u32 (a / 2 ^ min b.toNat 32), .int .i64 0]) ∧ w = w' := by
  go_enter Tryd.func12, Tryd.ntmps12
  go_wp2
  go_ret2
  exact ⟨rfl, rfl⟩
theorem apply_14_yes (a b : Int) (w : World) (h : a < b) : Calls Tryd.prog 12 #[.int .i64 14, .int .u32 a, .int .u32 b] w fun e w' => e = .returned (.tuple #[.int .u32 1, .int .i64 0]) ∧ w = w' := by
  go_enter Tryd.func12, Tryd.ntmps12
  go_wp2_with (go_at_call 27; refine (truth_yes _).mono ?_; rintro e w' ⟨rfl, rfl⟩)
  go_ret2
  exact ⟨rfl, rfl⟩
theorem apply_14_no (a b : Int) (w : World) (h : b ≤ a) : Calls Tryd.prog 12 #[.int .i64 14, .int .u32 a, .int .u32 b] w fun e w' => e = .returned (.tuple #[.int .u32 0, .int .i64 0]) ∧ w = w' := by
  have hd : decide (a < b) = false := by simpa using h
  go_enter Tryd.func12, Tryd.ntmps12
  go_wp2_with (go_at_call 27; refine (truth_no _).mono ?_; rintro e w' ⟨rfl, rfl⟩)
  go_ret2
  exact ⟨rfl, rfl⟩
theorem apply_15_yes (a b : Int) (w : World) (h : bits .xor .u32 a b < 1) : Calls Tryd.prog 12 #[.int .i64 15, .int .u32 a, .int .u32 b] w fun e w' => e = .returned (.tuple #[.int .u32 1, .int .i64 0]) ∧ w = w' := by
  go_enter Tryd.func12, Tryd.ntmps12
  go_wp2_with (go_at_call 27; refine (truth_yes _).mono ?_; rintro e w' ⟨rfl, rfl⟩)
  go_ret2
  exact ⟨rfl, rfl⟩
theorem apply_15_no (a b : Int) (w : World) (h : 1 ≤ bits .xor .u32 a b) : Calls Tryd.prog 12 #[.int .i64 15, .int .u32 a, .int .u32 b] w fun e w' => e = .returned (.tuple #[.int .u32 0, .int .i64 0]) ∧ w = w' := by
  have hd : decide (bits .xor .u32 a b < 1) = false := by simpa using h
  go_enter Tryd.func12, Tryd.ntmps12
  go_wp2_with (go_at_call 27; refine (truth_no _).mono ?_; rintro e w' ⟨rfl, rfl⟩)
  go_ret2
  exact ⟨rfl, rfl⟩
theorem apply_7 (a b : Int) (w : World) (ha : 0 ≤ a) (ha' : a < 4294967296) (hb' : b < 4294967296) (h : 1 ≤ b) : Calls Tryd.prog 12 #[.int .i64 7, .int .u32 a, .int .u32 b] w fun e w' => e = .returned (.tuple #[.int .u32 (a / b), .int .i64 0]) ∧ w = w' := by
  go_enter Tryd.func12, Tryd.ntmps12
  go_wp2_with (go_at_call 26; refine (divide_7 a b _ ha ha' h hb').mono ?_; rintro e w' ⟨rfl, rfl⟩)
  go_ret2
  exact ⟨rfl, rfl⟩
theorem apply_8 (a b : Int) (w : World) (ha : 0 ≤ a) (ha' : a < 4294967296) (hb' : b < 4294967296) (h : 1 ≤ b) : Calls Tryd.prog 12 #[.int .i64 8, .int .u32 a, .int .u32 b] w fun e w' => e = .returned (.tuple #[.int .u32 (a % b), .int .i64 0]) ∧ w = w' := by
  go_enter Tryd.func12, Tryd.ntmps12
  go_wp2_with (go_at_call 26; refine (divide_8 a b _ ha ha' h hb').mono ?_; rintro e w' ⟨rfl, rfl⟩)
  go_ret2
  exact ⟨rfl, rfl⟩
theorem apply_7z (a : Int) (w : World) : Calls Tryd.prog 12 #[.int .i64 7, .int .u32 a, .int .u32 0] w fun e w' => e = .returned (.tuple #[.int .u32 0, .int .i64 14]) ∧ w = w' := by
  go_enter Tryd.func12, Tryd.ntmps12
  go_wp2_with (go_at_call 26; refine (divide_0 7 a 0 _ rfl).mono ?_; rintro e w' ⟨rfl, rfl⟩)
  go_ret2
  exact ⟨rfl, rfl⟩
theorem apply_8z (a : Int) (w : World) : Calls Tryd.prog 12 #[.int .i64 8, .int .u32 a, .int .u32 0] w fun e w' => e = .returned (.tuple #[.int .u32 0, .int .i64 14]) ∧ w = w' := by
  go_enter Tryd.func12, Tryd.ntmps12
  go_wp2_with (go_at_call 26; refine (divide_0 8 a 0 _ rfl).mono ?_; rintro e w' ⟨rfl, rfl⟩)
  go_ret2
  exact ⟨rfl, rfl⟩
theorem apply_none (op a b : Int) (w : World) (h : op < 4 ∨ 15 < op) : Calls Tryd.prog 12 #[.int .i64 op, .int .u32 a, .int .u32 b] w fun e w' => e = .returned (.tuple #[.int .u32 0, .int .i64 1]) ∧ w = w' := by
  go_enter Tryd.func12, Tryd.ntmps12
  go_wp2
  go_ret2
  exact ⟨rfl, rfl⟩

/-- THE CONTRACT OF Apply: the word and the error are those of the plain functions app and appE. -/
theorem apply_any (op a b : Int) (w : World) (ha : 0 ≤ a) (ha' : a < 4294967296) (hb : 0 ≤ b) (hb' : b < 4294967296) :
    Calls Tryd.prog 12 #[.int .i64 op, .int .u32 a, .int .u32 b] w fun e w' => e = .returned (.tuple #[.int .u32 (app op a b), .int .i64 (appE op b)]) ∧ w = w' := by
  by_cases h4 : op = 4
  · subst h4; exact apply_4 a b w ha ha' hb hb'
  by_cases h5 : op = 5
  · subst h5; exact apply_5 a b w ha ha' hb hb'
  by_cases h6 : op = 6
  · subst h6; exact apply_6 a b w ha ha' hb hb'
  by_cases h7 : op = 7
  · subst h7
    by_cases hz : b = 0
    · subst hz
      have e1 : app 7 a 0 = 0 := by simp [app]
      rw [e1]; exact apply_7z a w
    · have e2 : appE 7 b = 0 := by simp [appE, hz]
      rw [e2]; exact apply_7 a b w ha ha' hb' (by omega)
  by_cases h8 : op = 8
  · subst h8
    by_cases hz : b = 0
    · subst hz
      have e1 : app 8 a 0 = 0 := by simp [app]
      rw [e1]; exact apply_8z a w
    · have e1 : app 8 a b = a % b := by simp [app, hz]
      have e2 : appE 8 b = 0 := by simp [appE, hz]
      rw [e1, e2]; exact apply_8 a b w ha ha' hb' (by omega)
  by_cases h9 : op = 9
  · subst h9; exact apply_9 a b w ha ha' hb hb'
  by_cases h10 : op = 10
  · subst h10; exact apply_10 a b w ha ha' hb hb'
  by_cases h11 : op = 11
  · subst h11; exact apply_11 a b w ha ha' hb hb'
  by_cases h12 : op = 12
  · subst h12; exact apply_12 a b w ha ha' hb hb'
  by_cases h13 : op = 13
  · subst h13; exact apply_13 a b w ha ha' hb hb'
  by_cases h14 : op = 14
  · subst h14
    by_cases h : a < b
    · have e1 : app 14 a b = 1 := by simp [app, h]
      rw [e1]; exact apply_14_yes a b w h
    · have e1 : app 14 a b = 0 := by simp [app, h]
      rw [e1]; exact apply_14_no a b w (by omega)
  by_cases h15 : op = 15
  · subst h15
    by_cases h : a = b
    · have e1 : app 15 a b = 1 := by simp [app, h]
      rw [e1]; exact apply_15_yes a b w (by rw [(xor_small a b ha ha' hb hb').2 h]; omega)
    · have e1 : app 15 a b = 0 := by simp [app, h]
      rw [e1]; exact apply_15_no a b w (by have h0 := xor_small a b ha ha' hb hb'; have h1 : bits .xor .u32 a b ≠ 0 := fun q => h (h0.1.2 q); have h2 := h0.1.1; omega)
  have e1 : app op a b = 0 := by simp [app, h4, h5, h6, h7, h8, h9, h10, h11, h12, h13, h14, h15]
  have e2 : appE op b = 1 := by simp [appE]; omega
  rw [e1, e2]
  exact apply_none op a b w (by omega)

theorem of_any (op a b : Int) (w : World) (ha : 0 ≤ a) (ha' : a < 4294967296) (hb : 0 ≤ b) (hb' : b < 4294967296) :
    Calls Tryd.prog 25 #[.int .i64 op, .int .u32 a, .int .u32 b] w fun e w' => e = .returned (.int .u32 (app op a b)) ∧ w = w' := by
  go_enter Tryd.func25, Tryd.ntmps25
  go_wp2_with (go_at_call 12; refine (apply_any op a b _ ha ha' hb hb').mono ?_; rintro e w' ⟨rfl, rfl⟩)
  go_ret
  exact ⟨rfl, rfl⟩
end Go.Proofs.YtefgaboalbaapaaDoor
