/-
  The walk of WordApplies: what Apply makes of any two words, or the error, is the document's.
-/
import Derived.Test.YtefgaboalbaapaaDoorBoth
import Derived.Test.YtefgaboalbaapaaDoorLawA
namespace Go.Proofs.YtefgaboalbaapaaDoor
open Go.RowKit

theorem flag_yes (w : World) : Calls Tryd.prog 30 #[.bool true] w fun e w' => e = .returned (.int .u32 1) ∧ w = w' := by
  go_enter Tryd.func30, Tryd.ntmps30
  go_wp2
  go_ret
  exact ⟨rfl, rfl⟩
theorem flag_no (w : World) : Calls Tryd.prog 30 #[.bool false] w fun e w' => e = .returned (.int .u32 0) ∧ w = w' := by
  go_enter Tryd.func30, Tryd.ntmps30
  go_wp2
  go_ret
  exact ⟨rfl, rfl⟩
/-- What the document's answer is, of one operation. -/
def RefA (op a b : Int) : Prop := ∀ w : World, Calls Tryd.prog 13 #[.int .i64 op, .int .u32 a, .int .u32 b] w fun e w' => e = .returned (.tuple #[.int .u32 (app op a b), .int .i64 (appE op b)]) ∧ Below w.heap.size w w'

theorem ref_4 (a b : Int) (ha : 0 ≤ a) (ha' : a < 4294967296) (hb : 0 ≤ b) (hb' : b < 4294967296) : RefA 4 a b := by
  intro w
  go_enter Tryd.func13, Tryd.ntmps13
  go_wp2
  go_ret2
  exact ⟨rfl, Below.refl _ _⟩
theorem ref_5 (a b : Int) (ha : 0 ≤ a) (ha' : a < 4294967296) (hb : 0 ≤ b) (hb' : b < 4294967296) : RefA 5 a b := by
  intro w
  go_enter Tryd.func13, Tryd.ntmps13
  go_wp2
  go_ret2
  exact ⟨ret2_eq (by show _ = (a - b) % 4294967296; omega) rfl, Below.refl _ _⟩
theorem ref_6 (a b : Int) (ha : 0 ≤ a) (ha' : a < 4294967296) (hb : 0 ≤ b) (hb' : b < 4294967296) : RefA 6 a b := by
  intro w
  have h0 : 0 ≤ a * b := Int.mul_nonneg ha hb
  have h1 : a * b ≤ 4294967295 * 4294967295 := Int.mul_le_mul (by omega) (by omega) hb (by omega)
  have h2 : a * b ≤ 18446744065119617025 := by omega
  clear h1
  go_enter Tryd.func13, Tryd.ntmps13
  go_wp2
  go_ret2
  exact ⟨rfl, Below.refl _ _⟩
theorem ref_7z (a : Int) (_ha : 0 ≤ a) (_ha' : a < 4294967296) : RefA 7 a 0 := by
  intro w
  have e1 : app 7 a 0 = 0 := by simp [app]
  rw [e1]
  go_enter Tryd.func13, Tryd.ntmps13
  go_wp2
  go_ret2
  exact ⟨rfl, Below.refl _ _⟩
theorem ref_8z (a : Int) (_ha : 0 ≤ a) (_ha' : a < 4294967296) : RefA 8 a 0 := by
  intro w
  have e1 : app 8 a 0 = 0 := by simp [app]
  rw [e1]
  go_enter Tryd.func13, Tryd.ntmps13
  go_wp2
  go_ret2
  exact ⟨rfl, Below.refl _ _⟩
theorem ref_7 (a b : Int) (ha : 0 ≤ a) (ha' : a < 4294967296) (hb : 1 ≤ b) (hb' : b < 4294967296) : RefA 7 a b := by
  intro w
  have hz : (b == 0) = false := by simp; omega
  have e2 : appE 7 b = 0 := by simp [appE]; omega
  have hq : 0 ≤ a / b := Int.ediv_nonneg ha (by omega)
  have hq' : a / b ≤ a := Int.ediv_le_self b ha
  have hq1 : a / b < 4294967296 := by omega
  rw [e2]
  clear hq' e2
  go_enter Tryd.func13, Tryd.ntmps13
  go_wp2
  go_ret2
  exact ⟨rfl, Below.refl _ _⟩
theorem ref_8 (a b : Int) (ha : 0 ≤ a) (ha' : a < 4294967296) (hb : 1 ≤ b) (hb' : b < 4294967296) : RefA 8 a b := by
  intro w
  have hz : (b == 0) = false := by simp; omega
  have e1 : app 8 a b = a % b := by
    have : ¬ b = 0 := by omega
    simp [app, this]
  have e2 : appE 8 b = 0 := by simp [appE]; omega
  have hq : 0 ≤ a % b := Int.emod_nonneg a (by omega)
  have hq1 : a % b < b := Int.emod_lt_of_pos a (by omega)
  rw [e1, e2]
  clear e1 e2
  go_enter Tryd.func13, Tryd.ntmps13
  go_wp2
  go_ret2
  exact ⟨rfl, Below.refl _ _⟩
theorem ref_bit (op a b : Int) (h : op = 9 ∨ op = 10 ∨ op = 11) (ha : 0 ≤ a) (ha' : a < 4294967296) (hb : 0 ≤ b) (hb' : b < 4294967296) : RefA op a b := by
  intro w
  have HC := fun w => both_any op a b w ha ha' hb hb' h
  have e2 : appE op b = 0 := by rcases h with rfl | rfl | rfl <;> rfl
  rw [e2]
  obtain ⟨z, hz⟩ : ∃ z : Int, app op a b = z := ⟨_, rfl⟩
  rw [hz]
  rw [hz] at HC
  have HC' := Lib.hid HC
  clear HC hz e2
  rcases h with rfl | rfl | rfl
  all_goals
    go_enter Tryd.func13, Tryd.ntmps13
    go_wp2_with (go_at_call 28; refine (HC'.out _).mono ?_; rintro e w1 ⟨rfl, hB⟩)
    go_ret2
    exact ⟨rfl, hB⟩
theorem ref_shift (op a b r : Int) (h : op = 12 ∨ op = 13) (hr : app op a b = r)
    (HC : Hid (∀ w : World, Calls Tryd.prog 29 #[.int .i64 op, .int .u32 a, .int .u32 b] w fun e w' => e = .returned (.int .u32 r) ∧ w = w')) : RefA op a b := by
  intro w
  have e2 : appE op b = 0 := by rcases h with rfl | rfl <;> rfl
  rw [e2, hr]
  clear e2 hr
  rcases h with rfl | rfl
  all_goals
    go_enter Tryd.func13, Tryd.ntmps13
    go_wp2_with (go_at_call 29; refine (HC.out _).mono ?_; rintro e w1 ⟨rfl, rfl⟩)
    go_ret2
    exact ⟨rfl, Below.refl _ _⟩
theorem ref_12 (a b : Int) (ha : 0 ≤ a) (ha' : a < 4294967296) (hb : 0 ≤ b) (_hb' : b < 4294967296) : RefA 12 a b := by
  by_cases h : b < 32
  · refine ref_shift 12 a b (a * 2 ^ b.toNat % 4294967296) (Or.inl rfl) ?_ (fun w => refShl_near a b w ha ha' hb h)
    show a * 2 ^ min b.toNat 32 % 4294967296 = _
    rw [show min b.toNat 32 = b.toNat by omega]
  · refine ref_shift 12 a b 0 (Or.inl rfl) ?_ (fun w => refShift_far 12 a b w (by omega))
    show a * 2 ^ min b.toNat 32 % 4294967296 = _
    rw [show min b.toNat 32 = 32 by omega]; omega
theorem ref_13 (a b : Int) (ha : 0 ≤ a) (ha' : a < 4294967296) (hb : 0 ≤ b) (_hb' : b < 4294967296) : RefA 13 a b := by
  by_cases h : b < 32
  · refine ref_shift 13 a b (a / 2 ^ b.toNat) (Or.inr rfl) ?_ (fun w => refShr_near a b w ha ha' hb h)
    show a / 2 ^ min b.toNat 32 = _
    rw [show min b.toNat 32 = b.toNat by omega]
  · refine ref_shift 13 a b 0 (Or.inr rfl) ?_ (fun w => refShift_far 13 a b w (by omega))
    show a / 2 ^ min b.toNat 32 = _
    rw [show min b.toNat 32 = 32 by omega]; omega
theorem ref_14y (a b : Int) (h : a < b) : RefA 14 a b := by
  intro w
  have e1 : app 14 a b = 1 := by simp [app, h]
  rw [e1]
  go_enter Tryd.func13, Tryd.ntmps13
  go_wp2_with (go_at_call 30; refine (flag_yes _).mono ?_; rintro e w' ⟨rfl, rfl⟩)
  go_ret2
  exact ⟨rfl, Below.refl _ _⟩
theorem ref_14n (a b : Int) (h : b ≤ a) : RefA 14 a b := by
  intro w
  have e1 : app 14 a b = 0 := by simp [app]; omega
  have hd : decide (a < b) = false := by simpa using h
  rw [e1]
  clear e1
  go_enter Tryd.func13, Tryd.ntmps13
  go_wp2_with (go_at_call 30; refine (flag_no _).mono ?_; rintro e w' ⟨rfl, rfl⟩)
  go_ret2
  exact ⟨rfl, Below.refl _ _⟩
theorem ref_15y (a : Int) : RefA 15 a a := by
  intro w
  have e1 : app 15 a a = 1 := by simp [app]
  rw [e1]
  clear e1
  go_enter Tryd.func13, Tryd.ntmps13
  go_wp2_with (go_at_call 30; refine (flag_yes _).mono ?_; rintro e w' ⟨rfl, rfl⟩)
  go_ret2
  exact ⟨rfl, Below.refl _ _⟩
theorem ref_15n (a b : Int) (h : a ≠ b) : RefA 15 a b := by
  intro w
  have e1 : app 15 a b = 0 := by simp [app, h]
  have hd : (a == b) = false := by simpa using h
  rw [e1]
  clear e1
  go_enter Tryd.func13, Tryd.ntmps13
  go_wp2_with (go_at_call 30; refine (flag_no _).mono ?_; rintro e w' ⟨rfl, rfl⟩)
  go_ret2
  exact ⟨rfl, Below.refl _ _⟩
theorem ref_none (op a b : Int) (h : op < 4 ∨ 15 < op) : RefA op a b := by
  intro w
  have e1 : app op a b = 0 := by
    have h4 : op ≠ 4 := by omega
    have h5 : op ≠ 5 := by omega
    have h6 : op ≠ 6 := by omega
    have h7 : op ≠ 7 := by omega
    have h8 : op ≠ 8 := by omega
    have h9 : op ≠ 9 := by omega
    have h10 : op ≠ 10 := by omega
    have h11 : op ≠ 11 := by omega
    have h12 : op ≠ 12 := by omega
    have h13 : op ≠ 13 := by omega
    have h14 : op ≠ 14 := by omega
    have h15 : op ≠ 15 := by omega
    simp [app, h4, h5, h6, h7, h8, h9, h10, h11, h12, h13, h14, h15]
  have e2 : appE op b = 1 := by simp [appE]; omega
  rw [e1, e2]
  clear e1 e2
  go_enter Tryd.func13, Tryd.ntmps13
  go_wp2
  go_ret2
  exact ⟨rfl, Below.refl _ _⟩
theorem ref_any (op a b : Int) (ha : 0 ≤ a) (ha' : a < 4294967296) (hb : 0 ≤ b) (hb' : b < 4294967296) : RefA op a b := by
  by_cases h4 : op = 4
  · subst h4; exact ref_4 a b ha ha' hb hb'
  by_cases h5 : op = 5
  · subst h5; exact ref_5 a b ha ha' hb hb'
  by_cases h6 : op = 6
  · subst h6; exact ref_6 a b ha ha' hb hb'
  by_cases h7 : op = 7
  · subst h7
    by_cases hz : b = 0
    · subst hz; exact ref_7z a ha ha'
    · exact ref_7 a b ha ha' (by omega) hb'
  by_cases h8 : op = 8
  · subst h8
    by_cases hz : b = 0
    · subst hz; exact ref_8z a ha ha'
    · exact ref_8 a b ha ha' (by omega) hb'
  by_cases h9 : op = 9 ∨ op = 10 ∨ op = 11
  · exact ref_bit op a b h9 ha ha' hb hb'
  by_cases h12 : op = 12
  · subst h12; exact ref_12 a b ha ha' hb hb'
  by_cases h13 : op = 13
  · subst h13; exact ref_13 a b ha ha' hb hb'
  by_cases h14 : op = 14
  · subst h14
    by_cases h : a < b
    · exact ref_14y a b h
    · exact ref_14n a b (by omega)
  by_cases h15 : op = 15
  · subst h15
    by_cases h : a = b
    · subst h; exact ref_15y a
    · exact ref_15n a b h
  exact ref_none op a b (by omega)

theorem applies_any (op a b : Int) (w : World) (_h : -9223372036854775808 ≤ op) (_h' : op ≤ 9223372036854775807) (ha : 0 ≤ a) (ha' : a < 4294967296) (hb : 0 ≤ b) (hb' : b < 4294967296) :
    Calls Tryd.prog 3 #[.int .i64 op, .int .u32 a, .int .u32 b] w fun e w' => e = .returned (.bool true) ∧ Below w.heap.size w w' := by
  have h1 := fun w => apply_any op a b w ha ha' hb hb'
  have h2 := ref_any op a b ha ha' hb hb'
  unfold RefA at h2
  obtain ⟨r, hr⟩ : ∃ r : Int, app op a b = r := ⟨_, rfl⟩
  obtain ⟨f, hf⟩ : ∃ f : Int, appE op b = f := ⟨_, rfl⟩
  rw [hr, hf] at h1 h2
  have H1 := Lib.hid h1
  have H2 := Lib.hid h2
  clear h1 h2 hr hf
  go_enter Tryd.func3, Tryd.ntmps3
  go_wp2_with fail
  refine (alive_any _).mono ?_
  rintro e w1 ⟨rfl, hB⟩
  go_wp2_with fail
  refine (H1.out _).mono ?_
  rintro e w2 ⟨rfl, rfl⟩
  go_wp2_with fail
  refine (H2.out _).mono ?_
  rintro e w2 ⟨rfl, hB2⟩
  go_wp2_with fail
  go_ret
  exact ⟨rfl, hB.trans (hB2.mono hB.size)⟩
end Go.Proofs.YtefgaboalbaapaaDoor
