/-
  The document's Encode and Decode (written by gen_in3.py).
-/
import Derived.Test.YtojgngefgianpaaDoorInB
import Derived.Test.YtojgngefgianpaaDoorBox
namespace Go.Proofs.YtojgngefgianpaaDoor
open Go.RowKit

theorem within_bd {g : Bool} {n m : Int} (hm : 0 ≤ m) (h : withinB g n m = true) : 0 ≤ n ∧ n ≤ m := by
  unfold withinB at h
  cases g
  · simp at h; omega
  · simp at h; omega
theorem right_bd {o a b c : Int} (h : rightI o a b c = true) : 1 ≤ o ∧ o ≤ 27 ∧ 0 ≤ a ∧ a ≤ 15 ∧ 0 ≤ b ∧ b ≤ 15 ∧ 0 ≤ c ∧ c ≤ 65535 := by
  unfold rightI at h
  rw [Bool.and_eq_true, Bool.and_eq_true, Bool.and_eq_true] at h
  obtain ⟨h0, h1, h2, h3⟩ := h
  have b1 := within_bd (by decide) h1
  have b2 := within_bd (by decide) h2
  have b3 := within_bd (by split <;> decide) h3
  have ho : ¬ (o < 1 ∨ 27 < o) := fun q => by
    rw [partsB_no o q, ByteArray.toList_eq] at h0
    simp at h0
  refine ⟨by omega, by omega, b1.1, b1.2, b2.1, b2.2, b3.1, ?_⟩
  have := b3.2
  split at this <;> omega
/-- An instruction's word. -/
def encI (o a b c : Int) : Int := o * 16777216 + a * 1048576 + b * 65536 + c
theorem enc_bd {o a b c : Int} (h : rightI o a b c = true) : 0 ≤ encI o a b c ∧ encI o a b c < 4294967296 := by
  have := right_bd h
  unfold encI; omega
theorem rright_val (o a b c : Int) (g : Bool) (w : World) (hg : rightI o a b c = g) : Calls Tryd.prog 13 #[.agg #[.int .i64 o, .int .i64 a, .int .i64 b, .int .i64 c]] w fun e w' => e = .returned (.bool g) ∧ Below w.heap.size w w' := by
  subst hg; exact rright_any o a b c w
set_option maxHeartbeats 8000000 in
set_option maxRecDepth 100000 in
theorem rencode_no (o a b c : Int) (w : World) (h : rightI o a b c = false) : Calls Tryd.prog 11 #[.agg #[.int .i64 o, .int .i64 a, .int .i64 b, .int .i64 c]] w fun e w' => e = .returned (.tuple #[.int .u32 0, .int .i64 1]) ∧ Below w.heap.size w w' := by
  obtain ⟨w1, hw1⟩ : ∃ w', w.alloc (.cells #[.int .i64 o, .int .i64 a, .int .i64 b, .int .i64 c] 23) = w' := ⟨_, rfl⟩
  have hI : Box 23 w.heap.size [.int .i64 o, .int .i64 a, .int .i64 b, .int .i64 c] w1 := by rw [← hw1]; exact Box.new 23 [.int .i64 o, .int .i64 a, .int .i64 b, .int .i64 c] w
  have hD : Below w.heap.size w w1 := by rw [← hw1]; exact (Below.refl _ _).alloc (Nat.le_refl _) _
  have hB := hD
  clear hD
  go_enter Tryd.func11, Tryd.ntmps11
  have chI0 := hI.cell (j := 0) (v := .int .i64 o) rfl
  have chI1 := hI.cell (j := 1) (v := .int .i64 a) rfl
  have chI2 := hI.cell (j := 2) (v := .int .i64 b) rfl
  have chI3 := hI.cell (j := 3) (v := .int .i64 c) rfl
  go_wp2_with fail
  clear hw1 chI0 chI1 chI2 chI3
  refine (rright_val o a b c false w1 h).mono ?_
  rintro e w2 ⟨rfl, hD⟩
  replace hI := hI.on hD
  replace hB := hB.trans (hD.mono hB.size)
  clear hD
  go_wp2_with fail
  refine bodyPost_ret (v := .tuple #[.int .u32 0, .int .i64 1]) (by simp [results, Tryd.results11, go_sem]) rfl ⟨rfl, hB⟩
set_option maxHeartbeats 8000000 in
set_option maxRecDepth 100000 in
theorem rencode_yes (o a b c : Int) (w : World) (h : rightI o a b c = true) : Calls Tryd.prog 11 #[.agg #[.int .i64 o, .int .i64 a, .int .i64 b, .int .i64 c]] w fun e w' => e = .returned (.tuple #[.int .u32 (encI o a b c), .int .i64 0]) ∧ Below w.heap.size w w' := by
  obtain ⟨ho1, ho2, ha1, ha2, hb1, hb2, hc1, hc2⟩ := right_bd h
  have hen : IntKind.u32.wrap (o * 16777216 + a * 1048576 + b * 65536 + c) = o * 16777216 + a * 1048576 + b * 65536 + c := by rw [IntKind.wrap_u32]; omega
  have H := Lib.hid h
  clear h
  unfold encI
  obtain ⟨w1, hw1⟩ : ∃ w', w.alloc (.cells #[.int .i64 o, .int .i64 a, .int .i64 b, .int .i64 c] 23) = w' := ⟨_, rfl⟩
  have hI : Box 23 w.heap.size [.int .i64 o, .int .i64 a, .int .i64 b, .int .i64 c] w1 := by rw [← hw1]; exact Box.new 23 [.int .i64 o, .int .i64 a, .int .i64 b, .int .i64 c] w
  have hD : Below w.heap.size w w1 := by rw [← hw1]; exact (Below.refl _ _).alloc (Nat.le_refl _) _
  have hB := hD
  clear hD
  go_enter Tryd.func11, Tryd.ntmps11
  have chI0 := hI.cell (j := 0) (v := .int .i64 o) rfl
  have chI1 := hI.cell (j := 1) (v := .int .i64 a) rfl
  have chI2 := hI.cell (j := 2) (v := .int .i64 b) rfl
  have chI3 := hI.cell (j := 3) (v := .int .i64 c) rfl
  go_wp2_with fail
  clear hw1 chI0 chI1 chI2 chI3
  refine (rright_val o a b c true w1 H.out).mono ?_
  rintro e w2 ⟨rfl, hD⟩
  replace hI := hI.on hD
  replace hB := hB.trans (hD.mono hB.size)
  clear hD
  have chI0 := hI.cell (j := 0) (v := .int .i64 o) rfl
  have chI1 := hI.cell (j := 1) (v := .int .i64 a) rfl
  have chI2 := hI.cell (j := 2) (v := .int .i64 b) rfl
  have chI3 := hI.cell (j := 3) (v := .int .i64 c) rfl
  go_wp2_with fail
  clear chI0 chI1 chI2 chI3
  refine bodyPost_ret (v := .tuple #[.int .u32 (o * 16777216 + a * 1048576 + b * 65536 + c), .int .i64 0]) (by simp [results, Tryd.results11, go_sem]) rfl ⟨rfl, hB⟩
set_option maxHeartbeats 8000000 in
set_option maxRecDepth 100000 in
theorem rdecode_no (x : Int) (w : World) (hx0 : 0 ≤ x) (hx1 : x < 4294967296) (h : rightI (x / 16777216) (x / 1048576 % 16) (x / 65536 % 16) (x % 65536) = false) : Calls Tryd.prog 17 #[.int .u32 x] w fun e w' => e = .returned (.tuple #[.agg #[.int .i64 0, .int .i64 0, .int .i64 0, .int .i64 0], .int .i64 7]) ∧ Below w.heap.size w w' := by
  have H := Lib.hid h
  clear h
  obtain ⟨w1, hw1⟩ : ∃ w', w.alloc (.cells #[.int .i64 0, .int .i64 0, .int .i64 0, .int .i64 0] 23) = w' := ⟨_, rfl⟩
  have hR : Box 23 w.heap.size [.int .i64 0, .int .i64 0, .int .i64 0, .int .i64 0] w1 := by rw [← hw1]; exact Box.new 23 [.int .i64 0, .int .i64 0, .int .i64 0, .int .i64 0] w
  have hD : Below w.heap.size w w1 := by rw [← hw1]; exact (Below.refl _ _).alloc (Nat.le_refl _) _
  have hB := hD
  clear hD
  obtain ⟨w2, hw2⟩ : ∃ w', w1.alloc (.cells #[.int .i64 (x / 16777216), .int .i64 (x / 1048576 % 16), .int .i64 (x / 65536 % 16), .int .i64 (x % 65536)] 23) = w' := ⟨_, rfl⟩
  have hI : Box 23 w1.heap.size [.int .i64 (x / 16777216), .int .i64 (x / 1048576 % 16), .int .i64 (x / 65536 % 16), .int .i64 (x % 65536)] w2 := by rw [← hw2]; exact Box.new 23 [.int .i64 (x / 16777216), .int .i64 (x / 1048576 % 16), .int .i64 (x / 65536 % 16), .int .i64 (x % 65536)] w1
  have hD : Below w1.heap.size w1 w2 := by rw [← hw2]; exact (Below.refl _ _).alloc (Nat.le_refl _) _
  replace hR := hR.on hD
  replace hB := hB.trans (hD.mono hB.size)
  clear hD
  go_enter Tryd.func17, Tryd.ntmps17
  have chI0 := hI.cell (j := 0) (v := .int .i64 (x / 16777216)) rfl
  have chI1 := hI.cell (j := 1) (v := .int .i64 (x / 1048576 % 16)) rfl
  have chI2 := hI.cell (j := 2) (v := .int .i64 (x / 65536 % 16)) rfl
  have chI3 := hI.cell (j := 3) (v := .int .i64 (x % 65536)) rfl
  go_wp2_with fail
  clear hw1 hw2 chI0 chI1 chI2 chI3
  refine (rright_val (x / 16777216) (x / 1048576 % 16) (x / 65536 % 16) (x % 65536) false w2 H.out).mono ?_
  rintro e w3 ⟨rfl, hD⟩
  replace hR := hR.on hD
  replace hI := hI.on hD
  replace hB := hB.trans (hD.mono hB.size)
  clear hD
  have d0 := hR.cell (j := 0) (v := .int .i64 0) rfl
  have f0 := hR.fz 0
  have d1 := hR.cell (j := 1) (v := .int .i64 0) rfl
  have f1 := hR.fz 1
  have d2 := hR.cell (j := 2) (v := .int .i64 0) rfl
  have f2 := hR.fz 2
  have d3 := hR.cell (j := 3) (v := .int .i64 0) rfl
  have f3 := hR.fz 3
  have hF : Box 23 (w.heap.size) [.int .i64 0, .int .i64 0, .int .i64 0, .int .i64 0] ((((w3.setCell ⟨w.heap.size, 0, none⟩ (.int .i64 0)).setCell ⟨w.heap.size, 1, none⟩ (.int .i64 0)).setCell ⟨w.heap.size, 2, none⟩ (.int .i64 0)).setCell ⟨w.heap.size, 3, none⟩ (.int .i64 0)) := ((((hR.set 0 (.int .i64 0)).set 1 (.int .i64 0)).set 2 (.int .i64 0)).set 3 (.int .i64 0))
  have hBf := ((((hB.setCell (p := ⟨w.heap.size, 0, none⟩) (Nat.le_refl _) (.int .i64 0)).setCell (p := ⟨w.heap.size, 1, none⟩) (Nat.le_refl _) (.int .i64 0)).setCell (p := ⟨w.heap.size, 2, none⟩) (Nat.le_refl _) (.int .i64 0)).setCell (p := ⟨w.heap.size, 3, none⟩) (Nat.le_refl _) (.int .i64 0))
  have chI0 := hI.cell (j := 0) (v := .int .i64 (x / 16777216)) rfl
  have chI1 := hI.cell (j := 1) (v := .int .i64 (x / 1048576 % 16)) rfl
  have chI2 := hI.cell (j := 2) (v := .int .i64 (x / 65536 % 16)) rfl
  have chI3 := hI.cell (j := 3) (v := .int .i64 (x % 65536)) rfl
  go_wp2_with fail
  clear chI0 chI1 chI2 chI3
  clear d0 f0 d1 f1 d2 f2 d3 f3
  generalize ((((w3.setCell ⟨w.heap.size, 0, none⟩ (.int .i64 0)).setCell ⟨w.heap.size, 1, none⟩ (.int .i64 0)).setCell ⟨w.heap.size, 2, none⟩ (.int .i64 0)).setCell ⟨w.heap.size, 3, none⟩ (.int .i64 0)) = wf at *
  have r0 := hF.cell (j := 0) (v := .int .i64 0) rfl
  have r1 := hF.cell (j := 1) (v := .int .i64 0) rfl
  have r2 := hF.cell (j := 2) (v := .int .i64 0) rfl
  have r3 := hF.cell (j := 3) (v := .int .i64 0) rfl
  refine bodyPost_ret (v := .tuple #[.agg #[.int .i64 0, .int .i64 0, .int .i64 0, .int .i64 0], .int .i64 7]) (by simp [results, Tryd.results17, go_sem, r0, r1, r2, r3]) rfl ⟨rfl, hBf⟩
set_option maxHeartbeats 8000000 in
set_option maxRecDepth 100000 in
theorem rdecode_yes (x : Int) (w : World) (hx0 : 0 ≤ x) (hx1 : x < 4294967296) (h : rightI (x / 16777216) (x / 1048576 % 16) (x / 65536 % 16) (x % 65536) = true) : Calls Tryd.prog 17 #[.int .u32 x] w fun e w' => e = .returned (.tuple #[.agg #[.int .i64 (x / 16777216), .int .i64 (x / 1048576 % 16), .int .i64 (x / 65536 % 16), .int .i64 (x % 65536)], .int .i64 0]) ∧ Below w.heap.size w w' := by
  have H := Lib.hid h
  clear h
  obtain ⟨w1, hw1⟩ : ∃ w', w.alloc (.cells #[.int .i64 0, .int .i64 0, .int .i64 0, .int .i64 0] 23) = w' := ⟨_, rfl⟩
  have hR : Box 23 w.heap.size [.int .i64 0, .int .i64 0, .int .i64 0, .int .i64 0] w1 := by rw [← hw1]; exact Box.new 23 [.int .i64 0, .int .i64 0, .int .i64 0, .int .i64 0] w
  have hD : Below w.heap.size w w1 := by rw [← hw1]; exact (Below.refl _ _).alloc (Nat.le_refl _) _
  have hB := hD
  clear hD
  obtain ⟨w2, hw2⟩ : ∃ w', w1.alloc (.cells #[.int .i64 (x / 16777216), .int .i64 (x / 1048576 % 16), .int .i64 (x / 65536 % 16), .int .i64 (x % 65536)] 23) = w' := ⟨_, rfl⟩
  have hI : Box 23 w1.heap.size [.int .i64 (x / 16777216), .int .i64 (x / 1048576 % 16), .int .i64 (x / 65536 % 16), .int .i64 (x % 65536)] w2 := by rw [← hw2]; exact Box.new 23 [.int .i64 (x / 16777216), .int .i64 (x / 1048576 % 16), .int .i64 (x / 65536 % 16), .int .i64 (x % 65536)] w1
  have hD : Below w1.heap.size w1 w2 := by rw [← hw2]; exact (Below.refl _ _).alloc (Nat.le_refl _) _
  replace hR := hR.on hD
  replace hB := hB.trans (hD.mono hB.size)
  clear hD
  go_enter Tryd.func17, Tryd.ntmps17
  have chI0 := hI.cell (j := 0) (v := .int .i64 (x / 16777216)) rfl
  have chI1 := hI.cell (j := 1) (v := .int .i64 (x / 1048576 % 16)) rfl
  have chI2 := hI.cell (j := 2) (v := .int .i64 (x / 65536 % 16)) rfl
  have chI3 := hI.cell (j := 3) (v := .int .i64 (x % 65536)) rfl
  go_wp2_with fail
  clear hw1 hw2 chI0 chI1 chI2 chI3
  refine (rright_val (x / 16777216) (x / 1048576 % 16) (x / 65536 % 16) (x % 65536) true w2 H.out).mono ?_
  rintro e w3 ⟨rfl, hD⟩
  replace hR := hR.on hD
  replace hI := hI.on hD
  replace hB := hB.trans (hD.mono hB.size)
  clear hD
  have d0 := hR.cell (j := 0) (v := .int .i64 0) rfl
  have f0 := hR.fz 0
  have d1 := hR.cell (j := 1) (v := .int .i64 0) rfl
  have f1 := hR.fz 1
  have d2 := hR.cell (j := 2) (v := .int .i64 0) rfl
  have f2 := hR.fz 2
  have d3 := hR.cell (j := 3) (v := .int .i64 0) rfl
  have f3 := hR.fz 3
  have hF : Box 23 (w.heap.size) [.int .i64 (x / 16777216), .int .i64 (x / 1048576 % 16), .int .i64 (x / 65536 % 16), .int .i64 (x % 65536)] ((((w3.setCell ⟨w.heap.size, 0, none⟩ (.int .i64 (x / 16777216))).setCell ⟨w.heap.size, 1, none⟩ (.int .i64 (x / 1048576 % 16))).setCell ⟨w.heap.size, 2, none⟩ (.int .i64 (x / 65536 % 16))).setCell ⟨w.heap.size, 3, none⟩ (.int .i64 (x % 65536))) := ((((hR.set 0 (.int .i64 (x / 16777216))).set 1 (.int .i64 (x / 1048576 % 16))).set 2 (.int .i64 (x / 65536 % 16))).set 3 (.int .i64 (x % 65536)))
  have hBf := ((((hB.setCell (p := ⟨w.heap.size, 0, none⟩) (Nat.le_refl _) (.int .i64 (x / 16777216))).setCell (p := ⟨w.heap.size, 1, none⟩) (Nat.le_refl _) (.int .i64 (x / 1048576 % 16))).setCell (p := ⟨w.heap.size, 2, none⟩) (Nat.le_refl _) (.int .i64 (x / 65536 % 16))).setCell (p := ⟨w.heap.size, 3, none⟩) (Nat.le_refl _) (.int .i64 (x % 65536)))
  have chI0 := hI.cell (j := 0) (v := .int .i64 (x / 16777216)) rfl
  have chI1 := hI.cell (j := 1) (v := .int .i64 (x / 1048576 % 16)) rfl
  have chI2 := hI.cell (j := 2) (v := .int .i64 (x / 65536 % 16)) rfl
  have chI3 := hI.cell (j := 3) (v := .int .i64 (x % 65536)) rfl
  go_wp2_with fail
  clear chI0 chI1 chI2 chI3
  clear d0 f0 d1 f1 d2 f2 d3 f3
  generalize ((((w3.setCell ⟨w.heap.size, 0, none⟩ (.int .i64 (x / 16777216))).setCell ⟨w.heap.size, 1, none⟩ (.int .i64 (x / 1048576 % 16))).setCell ⟨w.heap.size, 2, none⟩ (.int .i64 (x / 65536 % 16))).setCell ⟨w.heap.size, 3, none⟩ (.int .i64 (x % 65536))) = wf at *
  have r0 := hF.cell (j := 0) (v := .int .i64 (x / 16777216)) rfl
  have r1 := hF.cell (j := 1) (v := .int .i64 (x / 1048576 % 16)) rfl
  have r2 := hF.cell (j := 2) (v := .int .i64 (x / 65536 % 16)) rfl
  have r3 := hF.cell (j := 3) (v := .int .i64 (x % 65536)) rfl
  refine bodyPost_ret (v := .tuple #[.agg #[.int .i64 (x / 16777216), .int .i64 (x / 1048576 % 16), .int .i64 (x / 65536 % 16), .int .i64 (x % 65536)], .int .i64 0]) (by simp [results, Tryd.results17, go_sem, r0, r1, r2, r3]) rfl ⟨rfl, hBf⟩
end Go.Proofs.YtojgngefgianpaaDoor
