/-
  The layer's examples are kept (written by gen_inI.py).
-/
import Derived.Test.YtojgngefgianpaaDoorInH
namespace Go.Proofs.YtojgngefgianpaaDoor
open Go.RowKit

theorem right_add : rightI 4 1 2 3 = true := by
  unfold rightI hasB
  rw [ByteArray.toList_eq]
  decide
theorem right_halt : rightI 26 0 0 0 = true := by
  unfold rightI hasB
  rw [ByteArray.toList_eq]
  decide
theorem right_li : rightI 1 4 0 65535 = true := by
  unfold rightI hasB
  rw [ByteArray.toList_eq]
  decide
theorem right_zero : rightI 0 0 0 0 = false := by
  unfold rightI hasB
  rw [ByteArray.toList_eq]
  decide
theorem bytes_eq {s t : ByteArray} (h : s.data.toList = t.data.toList) : s = t := by
  cases s; cases t; congr; exact Array.ext' h
theorem text_add : txtB (partsB 4) (nameB 4) 1 2 3 (partsB 4).size = ⟨#[97, 100, 100, 32, 114, 49, 44, 32, 114, 50, 44, 32, 114, 51]⟩ := by
  apply bytes_eq
  rw [text_form 4 1 2 3 (by decide) (by decide)]
  simp [sufL, partsB, nameB, decL, Lib.decDigits]
theorem text_li : txtB (partsB 1) (nameB 1) 4 0 65535 (partsB 1).size = ⟨#[108, 105, 32, 114, 52, 44, 32, 54, 53, 53, 51, 53]⟩ := by
  apply bytes_eq
  rw [text_form 1 4 0 65535 (by decide) (by decide)]
  simp [sufL, partsB, nameB, decL, Lib.decDigits]
theorem calive_e1 (w : World) (hO : OpsOk w) : Calls Tryd.prog 10 #[.agg #[.int .i64 4, .int .i64 1, .int .i64 2, .int .i64 3]] w fun e w' => e = .returned (.tuple #[.int .u32 68288515, .int .i64 0]) ∧ Below w.heap.size w w' := cencode_yes 4 1 2 3 w hO right_add
theorem calive_e2 (w : World) (hO : OpsOk w) : Calls Tryd.prog 10 #[.agg #[.int .i64 26, .int .i64 0, .int .i64 0, .int .i64 0]] w fun e w' => e = .returned (.tuple #[.int .u32 436207616, .int .i64 0]) ∧ Below w.heap.size w w' := cencode_yes 26 0 0 0 w hO right_halt
theorem calive_d (w : World) (hO : OpsOk w) : Calls Tryd.prog 16 #[.int .u32 0] w fun e w' => e = .returned (.tuple #[.agg #[.int .i64 0, .int .i64 0, .int .i64 0, .int .i64 0], .int .i64 7]) ∧ Below w.heap.size w w' := cdecode_no 0 w hO (by decide) (by decide) right_zero
theorem calive_t1 (w : World) (hO : OpsOk w) (hT : PowOk w) : Calls Tryd.prog 14 #[.agg #[.int .i64 4, .int .i64 1, .int .i64 2, .int .i64 3]] w fun e w' => e = .returned (.string ⟨#[97, 100, 100, 32, 114, 49, 44, 32, 114, 50, 44, 32, 114, 51]⟩) ∧ Below w.heap.size w w' := by
  have h := ctext_yes 4 1 2 3 w hO hT right_add
  rw [text_add] at h
  exact h
theorem calive_t2 (w : World) (hO : OpsOk w) (hT : PowOk w) : Calls Tryd.prog 14 #[.agg #[.int .i64 1, .int .i64 4, .int .i64 0, .int .i64 65535]] w fun e w' => e = .returned (.string ⟨#[108, 105, 32, 114, 52, 44, 32, 54, 53, 53, 51, 53]⟩) ∧ Below w.heap.size w w' := by
  have h := ctext_yes 1 4 0 65535 w hO hT right_li
  rw [text_li] at h
  exact h
set_option maxHeartbeats 8000000 in
set_option maxRecDepth 100000 in
theorem alive_any (w : World) (hO : OpsOk w) (hT : PowOk w) : Calls Tryd.prog 9 #[] w fun e w' => e = .returned (.bool true) ∧ Below w.heap.size w w' := by
  obtain ⟨w1, hw1⟩ : ∃ w', w.alloc (.cells #[.int .i64 4, .int .i64 1, .int .i64 2, .int .i64 3] 23) = w' := ⟨_, rfl⟩
  have hI : Box 23 w.heap.size [.int .i64 4, .int .i64 1, .int .i64 2, .int .i64 3] w1 := by rw [← hw1]; exact Box.new 23 [.int .i64 4, .int .i64 1, .int .i64 2, .int .i64 3] w
  have hD : Below w.heap.size w w1 := by rw [← hw1]; exact (Below.refl _ _).alloc (Nat.le_refl _) _
  replace hO := hO.on hD
  replace hT := hT.on hD
  have hB := hD
  clear hD
  go_enter Tryd.func9, Tryd.ntmps9
  have chI0 := hI.cell (j := 0) (v := .int .i64 4) rfl
  have chI1 := hI.cell (j := 1) (v := .int .i64 1) rfl
  have chI2 := hI.cell (j := 2) (v := .int .i64 2) rfl
  have chI3 := hI.cell (j := 3) (v := .int .i64 3) rfl
  go_wp2_with fail
  clear hw1 chI0 chI1 chI2 chI3
  refine (calive_e1 w1 hO).mono ?_
  rintro e w2 ⟨rfl, hD⟩
  replace hI := hI.on hD
  replace hO := hO.on hD
  replace hT := hT.on hD
  replace hB := hB.trans (hD.mono hB.size)
  clear hD
  go_wp2_with fail
  refine (calive_e2 w2 hO).mono ?_
  rintro e w3 ⟨rfl, hD⟩
  replace hI := hI.on hD
  replace hO := hO.on hD
  replace hT := hT.on hD
  replace hB := hB.trans (hD.mono hB.size)
  clear hD
  go_wp2_with fail
  refine (calive_d w3 hO).mono ?_
  rintro e w4 ⟨rfl, hD⟩
  replace hI := hI.on hD
  replace hO := hO.on hD
  replace hT := hT.on hD
  replace hB := hB.trans (hD.mono hB.size)
  clear hD
  obtain ⟨w5, hw5⟩ : ∃ w', w4.alloc (.cells #[.int .i64 0, .int .i64 0, .int .i64 0, .int .i64 0] 23) = w' := ⟨_, rfl⟩
  have hZ : Box 23 w4.heap.size [.int .i64 0, .int .i64 0, .int .i64 0, .int .i64 0] w5 := by rw [← hw5]; exact Box.new 23 [.int .i64 0, .int .i64 0, .int .i64 0, .int .i64 0] w4
  have hD : Below w4.heap.size w4 w5 := by rw [← hw5]; exact (Below.refl _ _).alloc (Nat.le_refl _) _
  have zhZ0 := hZ.cell (j := 0) (v := .int .i64 0) rfl
  have yhZ0 := hZ.fz 0
  have zhZ1 := hZ.cell (j := 1) (v := .int .i64 0) rfl
  have yhZ1 := hZ.fz 1
  have zhZ2 := hZ.cell (j := 2) (v := .int .i64 0) rfl
  have yhZ2 := hZ.fz 2
  have zhZ3 := hZ.cell (j := 3) (v := .int .i64 0) rfl
  have yhZ3 := hZ.fz 3
  obtain ⟨w6, hw6⟩ : ∃ w', ((((w5.setCell ⟨w4.heap.size, 0, none⟩ (.int .i64 0)).setCell ⟨w4.heap.size, 1, none⟩ (.int .i64 0)).setCell ⟨w4.heap.size, 2, none⟩ (.int .i64 0)).setCell ⟨w4.heap.size, 3, none⟩ (.int .i64 0)) = w' := ⟨_, rfl⟩
  replace hZ : Box 23 w4.heap.size [.int .i64 0, .int .i64 0, .int .i64 0, .int .i64 0] w6 := by rw [← hw6]; exact ((((hZ.set 0 (.int .i64 0)).set 1 (.int .i64 0)).set 2 (.int .i64 0)).set 3 (.int .i64 0))
  replace hD : Below w4.heap.size w4 w6 := by rw [← hw6]; exact ((((hD.setCell (p := ⟨w4.heap.size, 0, none⟩) (Nat.le_refl _) (.int .i64 0)).setCell (p := ⟨w4.heap.size, 1, none⟩) (Nat.le_refl _) (.int .i64 0)).setCell (p := ⟨w4.heap.size, 2, none⟩) (Nat.le_refl _) (.int .i64 0)).setCell (p := ⟨w4.heap.size, 3, none⟩) (Nat.le_refl _) (.int .i64 0))
  replace hI := hI.on hD
  replace hO := hO.on hD
  replace hT := hT.on hD
  replace hB := hB.trans (hD.mono hB.size)
  clear hD
  have chI0 := hI.cell (j := 0) (v := .int .i64 4) rfl
  have chI1 := hI.cell (j := 1) (v := .int .i64 1) rfl
  have chI2 := hI.cell (j := 2) (v := .int .i64 2) rfl
  have chI3 := hI.cell (j := 3) (v := .int .i64 3) rfl
  go_wp2_with fail
  clear hw5 zhZ0 yhZ0 zhZ1 yhZ1 zhZ2 yhZ2 zhZ3 yhZ3 hw6 chI0 chI1 chI2 chI3
  refine (calive_t1 w6 hO hT).mono ?_
  rintro e w7 ⟨rfl, hD⟩
  replace hI := hI.on hD
  replace hZ := hZ.on hD
  replace hO := hO.on hD
  replace hT := hT.on hD
  replace hB := hB.trans (hD.mono hB.size)
  clear hD
  go_wp2_with fail
  refine (calive_t2 w7 hO hT).mono ?_
  rintro e w8 ⟨rfl, hD⟩
  replace hI := hI.on hD
  replace hZ := hZ.on hD
  replace hO := hO.on hD
  replace hT := hT.on hD
  replace hB := hB.trans (hD.mono hB.size)
  clear hD
  go_wp2_with fail
  go_ret
  exact ⟨rfl, hB⟩
end Go.Proofs.YtojgngefgianpaaDoor
