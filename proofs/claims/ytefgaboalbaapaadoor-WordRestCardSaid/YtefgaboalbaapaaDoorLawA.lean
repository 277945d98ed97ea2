/-
  The walks of WordOrder, WordRing, WordRest: each answers true, for any words; the memory that was there is as it was.
-/
import Derived.Test.YtefgaboalbaapaaDoorAlive
namespace Go.Proofs.YtefgaboalbaapaaDoor
open Go.RowKit

theorem of_val (op a b r : Int) (w : World) (ha : 0 ≤ a) (ha' : a < 4294967296) (hb : 0 ≤ b) (hb' : b < 4294967296) (h : app op a b = r) :
    Calls Tryd.prog 25 #[.int .i64 op, .int .u32 a, .int .u32 b] w fun e w' => e = .returned (.int .u32 r) ∧ w = w' := by
  rw [← h]; exact of_any op a b w ha ha' hb hb'
theorem lt_yes {a b : Int} (h : a < b) : app 14 a b = 1 := by simp [app, h]
theorem lt_no {a b : Int} (h : b ≤ a) : app 14 a b = 0 := by simp [app]; omega
theorem eq_yes (a : Int) : app 15 a a = 1 := by simp [app]
theorem eq_no {a b : Int} (h : a ≠ b) : app 15 a b = 0 := by simp [app, h]

theorem order_lt (a b c : Int) (w : World) (ha : 0 ≤ a) (ha' : a < 4294967296) (hb : 0 ≤ b) (hb' : b < 4294967296) (hc : 0 ≤ c) (hc' : c < 4294967296) (h : a < b) :
    Calls Tryd.prog 10 #[.int .u32 a, .int .u32 b, .int .u32 c] w fun e w' => e = .returned (.bool true) ∧ Below w.heap.size w w' := by
  have hab : (a == b) = false := by simp; omega
  go_enter Tryd.func10, Tryd.ntmps10
  go_wp2_with fail
  refine (alive_any _).mono ?_
  rintro e w1 ⟨rfl, hB⟩
  go_wp2_with fail
  refine (of_val 14 a b 1 _ ha ha' hb hb' (lt_yes h)).mono ?_
  rintro e w2 ⟨rfl, rfl⟩
  go_wp2_with fail
  refine (of_val 14 b a 0 _ hb hb' ha ha' (lt_no (by omega))).mono ?_
  rintro e w2 ⟨rfl, rfl⟩
  go_wp2_with fail
  refine (of_val 15 a b 0 _ ha ha' hb hb' (eq_no (by omega))).mono ?_
  rintro e w2 ⟨rfl, rfl⟩
  go_wp2_with fail
  by_cases hbc : b < c
  · refine (of_val 14 b c 1 _ hb hb' hc hc' (lt_yes hbc)).mono ?_
    rintro e w2 ⟨rfl, rfl⟩
    go_wp2_with fail
    refine (of_val 14 a c 1 _ ha ha' hc hc' (lt_yes (by omega))).mono ?_
    rintro e w2 ⟨rfl, rfl⟩
    go_wp2_with fail
    go_ret
    exact ⟨rfl, hB⟩
  · refine (of_val 14 b c 0 _ hb hb' hc hc' (lt_no (by omega))).mono ?_
    rintro e w2 ⟨rfl, rfl⟩
    go_wp2_with fail
    go_ret
    exact ⟨rfl, hB⟩
theorem order_eq (a c : Int) (w : World) (ha : 0 ≤ a) (ha' : a < 4294967296) :
    Calls Tryd.prog 10 #[.int .u32 a, .int .u32 a, .int .u32 c] w fun e w' => e = .returned (.bool true) ∧ Below w.heap.size w w' := by
  go_enter Tryd.func10, Tryd.ntmps10
  go_wp2_with fail
  refine (alive_any _).mono ?_
  rintro e w1 ⟨rfl, hB⟩
  go_wp2_with fail
  refine (of_val 14 a a 0 _ ha ha' ha ha' (lt_no (by omega))).mono ?_
  rintro e w2 ⟨rfl, rfl⟩
  go_wp2_with fail
  refine (of_val 14 a a 0 _ ha ha' ha ha' (lt_no (by omega))).mono ?_
  rintro e w2 ⟨rfl, rfl⟩
  go_wp2_with fail
  refine (of_val 15 a a 1 _ ha ha' ha ha' (eq_yes a)).mono ?_
  rintro e w2 ⟨rfl, rfl⟩
  go_wp2_with fail
  go_ret
  exact ⟨rfl, hB⟩
theorem order_gt (a b c : Int) (w : World) (ha : 0 ≤ a) (ha' : a < 4294967296) (hb : 0 ≤ b) (hb' : b < 4294967296) (h : b < a) :
    Calls Tryd.prog 10 #[.int .u32 a, .int .u32 b, .int .u32 c] w fun e w' => e = .returned (.bool true) ∧ Below w.heap.size w w' := by
  have hab : (a == b) = false := by simp; omega
  go_enter Tryd.func10, Tryd.ntmps10
  go_wp2_with fail
  refine (alive_any _).mono ?_
  rintro e w1 ⟨rfl, hB⟩
  go_wp2_with fail
  refine (of_val 14 a b 0 _ ha ha' hb hb' (lt_no (by omega))).mono ?_
  rintro e w2 ⟨rfl, rfl⟩
  go_wp2_with fail
  refine (of_val 14 b a 1 _ hb hb' ha ha' (lt_yes h)).mono ?_
  rintro e w2 ⟨rfl, rfl⟩
  go_wp2_with fail
  refine (of_val 15 a b 0 _ ha ha' hb hb' (eq_no (by omega))).mono ?_
  rintro e w2 ⟨rfl, rfl⟩
  go_wp2_with fail
  go_ret
  exact ⟨rfl, hB⟩
theorem order_any (a b c : Int) (w : World) (ha : 0 ≤ a) (ha' : a < 4294967296) (hb : 0 ≤ b) (hb' : b < 4294967296) (hc : 0 ≤ c) (hc' : c < 4294967296) :
    Calls Tryd.prog 10 #[.int .u32 a, .int .u32 b, .int .u32 c] w fun e w' => e = .returned (.bool true) ∧ Below w.heap.size w w' := by
  rcases Int.lt_trichotomy a b with h | h | h
  · exact order_lt a b c w ha ha' hb hb' hc hc' h
  · subst h; exact order_eq a c w ha ha'
  · exact order_gt a b c w ha ha' hb hb' h

theorem rest_zero (a : Int) (w : World) :
    Calls Tryd.prog 8 #[.int .u32 a, .int .u32 0] w fun e w' => e = .returned (.bool true) ∧ Below w.heap.size w w' := by
  go_enter Tryd.func8, Tryd.ntmps8
  go_wp2_with fail
  refine (alive_any _).mono ?_
  rintro e w1 ⟨rfl, hB⟩
  go_wp2_with fail
  refine (apply_7z a _).mono ?_
  rintro e w2 ⟨rfl, rfl⟩
  go_wp2_with fail
  refine (apply_8z a _).mono ?_
  rintro e w2 ⟨rfl, rfl⟩
  go_wp2_with fail
  go_ret
  exact ⟨rfl, hB⟩
theorem apply_val (op a b r f : Int) (w : World) (ha : 0 ≤ a) (ha' : a < 4294967296) (hb : 0 ≤ b) (hb' : b < 4294967296) (h : app op a b = r) (h' : appE op b = f) :
    Calls Tryd.prog 12 #[.int .i64 op, .int .u32 a, .int .u32 b] w fun e w' => e = .returned (.tuple #[.int .u32 r, .int .i64 f]) ∧ w = w' := by
  rw [← h, ← h']; exact apply_any op a b w ha ha' hb hb'
theorem rest_some (a b : Int) (w : World) (ha : 0 ≤ a) (ha' : a < 4294967296) (hb : 0 < b) (hb' : b < 4294967296) :
    Calls Tryd.prog 8 #[.int .u32 a, .int .u32 b] w fun e w' => e = .returned (.bool true) ∧ Below w.heap.size w w' := by
  obtain ⟨q, hq⟩ : ∃ q : Int, app 7 a b = q := ⟨_, rfl⟩
  obtain ⟨r, hr⟩ : ∃ r : Int, app 8 a b = r := ⟨_, rfl⟩
  have eq : q = a / b := by rw [← hq]; rfl
  have er : r = a % b := by
    rw [← hr]
    have : ¬ b = 0 := by omega
    simp [app, this]
  have hm : q * b + r = a := by rw [eq, er, Int.mul_comm]; exact Int.mul_ediv_add_emod a b
  have hr0 : 0 ≤ r := by rw [er]; exact Int.emod_nonneg a (by omega)
  have hr1 : r < b := by rw [er]; exact Int.emod_lt_of_pos a hb
  have hq0 : 0 ≤ q := by rw [eq]; exact Int.ediv_nonneg ha (by omega)
  have hqa : q ≤ a := by rw [eq]; exact Int.ediv_le_self b ha
  have hq1 : q < 4294967296 := by omega
  have hqb0 : 0 ≤ q * b := Int.mul_nonneg hq0 (by omega)
  have hqb1 : q * b ≤ 4294967295 := by omega
  have h1 : (q * b + r == a) = true := by rw [hm]; simp
  have hz : (b == 0) = false := by simp; omega
  have HQ := Lib.hid hq
  have HR := Lib.hid hr
  clear hq hr eq er hm hqa
  go_enter Tryd.func8, Tryd.ntmps8
  go_wp2_with fail
  refine (alive_any _).mono ?_
  rintro e w1 ⟨rfl, hB⟩
  go_wp2_with fail
  refine (apply_val 7 a b q 0 _ ha ha' (by omega) hb' HQ.out (by simp [appE]; omega)).mono ?_
  rintro e w2 ⟨rfl, rfl⟩
  go_wp2_with fail
  refine (apply_val 8 a b r 0 _ ha ha' (by omega) hb' HR.out (by simp [appE]; omega)).mono ?_
  rintro e w2 ⟨rfl, rfl⟩
  go_wp2_with fail
  go_ret
  exact ⟨rfl, hB⟩
theorem rest_any (a b : Int) (w : World) (ha : 0 ≤ a) (ha' : a < 4294967296) (hb : 0 ≤ b) (hb' : b < 4294967296) :
    Calls Tryd.prog 8 #[.int .u32 a, .int .u32 b] w fun e w' => e = .returned (.bool true) ∧ Below w.heap.size w w' := by
  by_cases h : b = 0
  · subst h; exact rest_zero a w
  · exact rest_some a b w ha ha' (by omega) hb'
end Go.Proofs.YtefgaboalbaapaaDoor
