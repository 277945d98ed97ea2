/-
  KeysPublic: the walks (written by gen_law61.py).
-/
import Derived.Test.YtdphhpmkcalahaaDoorKyO
import Derived.Test.YtdphhpmkcalahaaDoorKyH
namespace Go.Proofs.YtdphhpmkcalahaaDoor
open Go.RowKit

theorem cpub_nmy (s v : D4) (h : Nat) (w : World) (hs : s.ok) (hh : h ≤ 4) (hT : TurnsOk w) (hv : pubK s h = v) :
    Calls Tryd.prog 11 #[.agg #[.int .u32 s.d0, .int .u32 s.d1, .int .u32 s.d2, .int .u32 s.d3], .int .i64 (h : Int)] w fun e w' => e = .returned (.tuple #[.agg #[.int .u32 v.d0, .int .u32 v.d1, .int .u32 v.d2, .int .u32 v.d3], .int .i64 0]) ∧ Below w.heap.size w w' := cpub6_yes s v h w hs hh hT hv
theorem rpub_nmy (s v : D4) (h : Nat) (w : World) (hs : s.ok) (hh : h ≤ 4) (hv : pubK s h = v) :
    Calls Tryd.prog 12 #[.agg #[.int .u32 s.d0, .int .u32 s.d1, .int .u32 s.d2, .int .u32 s.d3], .int .i64 (h : Int)] w fun e w' => e = .returned (.tuple #[.agg #[.int .u32 v.d0, .int .u32 v.d1, .int .u32 v.d2, .int .u32 v.d3], .int .i64 0]) ∧ Below w.heap.size w w' := rpub6_yes s v h w hs hh hv
theorem cpub_nmn (s : D4) (h : Int) (w : World) (hh : h < 0 ∨ 4 < h) :
    Calls Tryd.prog 11 #[.agg #[.int .u32 s.d0, .int .u32 s.d1, .int .u32 s.d2, .int .u32 s.d3], .int .i64 h] w fun e w' => e = .returned (.tuple #[.agg #[.int .u32 0, .int .u32 0, .int .u32 0, .int .u32 0], .int .i64 2]) ∧ Below w.heap.size w w' := cpub6_no s h w hh
theorem rpub_nmn (s : D4) (h : Int) (w : World) (hh : h < 0 ∨ 4 < h) :
    Calls Tryd.prog 12 #[.agg #[.int .u32 s.d0, .int .u32 s.d1, .int .u32 s.d2, .int .u32 s.d3], .int .i64 h] w fun e w' => e = .returned (.tuple #[.agg #[.int .u32 0, .int .u32 0, .int .u32 0, .int .u32 0], .int .i64 2]) ∧ Below w.heap.size w w' := rpub6_no s h w hh
theorem eqSR_yes (s : D4) (h n : Int) (w : World) : Sem.run Tryd.prog (Op.equalIn 10000 30 (.agg #[.int .u32 s.d0, .int .u32 s.d1, .int .u32 s.d2, .int .u32 s.d3, .int .i64 h, .int .i64 n]) (.agg #[.int .u32 s.d0, .int .u32 s.d1, .int .u32 s.d2, .int .u32 s.d3, .int .i64 h, .int .i64 n])) w = Result.ok true w := by
  have hf : Tryd.prog.underlying 30 = some (.struct (Tryd.prog.fieldsOf 30)) := by kernel_rfl
  have hp : Tryd.prog.stoodInHeld 30 = false := by kernel_rfl
  rw [run_equalIn_struct w 9999 30 _ _ hf hp]
  have e1 := eqD_runF 9997 s s
  rw [(sameD_iff s s).mpr rfl] at e1
  simp only [Nat.reduceAdd] at e1
  simp [Op.eqFields, go_sem, part, e1]
set_option maxHeartbeats 8000000 in
set_option maxRecDepth 100000 in
theorem public_mid (s : D4) (h : Int) (w : World) (hh : h = 3 ∨ h = 4) (hT : TurnsOk w) :
    Calls Tryd.prog 3 #[.agg #[.int .u32 s.d0, .int .u32 s.d1, .int .u32 s.d2, .int .u32 s.d3], .int .i64 h] w fun e w' => e = .returned (.bool true) ∧ Below w.heap.size w w' := by
  have he : (h == (3 : Int)) = true ∨ ((h == (3 : Int)) = false ∧ (h == (4 : Int)) = true) := by simp; omega
  clear hh
  obtain ⟨w1, hw1⟩ : ∃ w', w.alloc (.cells #[.int .u32 s.d0, .int .u32 s.d1, .int .u32 s.d2, .int .u32 s.d3] 24) = w' := ⟨_, rfl⟩
  have hS : Box 24 w.heap.size [.int .u32 s.d0, .int .u32 s.d1, .int .u32 s.d2, .int .u32 s.d3] w1 := by rw [← hw1]; exact Box.new 24 [.int .u32 s.d0, .int .u32 s.d1, .int .u32 s.d2, .int .u32 s.d3] w
  have hD : Below w.heap.size w w1 := by rw [← hw1]; exact (Below.refl _ _).alloc (Nat.le_refl _) _
  have hB := hD
  replace hT := hT.below hD
  clear hD
  go_enter Tryd.func3, Tryd.ntmps3
  have chS0 := hS.cell (j := 0) (v := .int .u32 s.d0) rfl
  have chS1 := hS.cell (j := 1) (v := .int .u32 s.d1) rfl
  have chS2 := hS.cell (j := 2) (v := .int .u32 s.d2) rfl
  have chS3 := hS.cell (j := 3) (v := .int .u32 s.d3) rfl
  go_wp2_with fail
  clear hw1 chS0 chS1 chS2 chS3
  refine (awake6_any w1 hT).mono ?_
  rintro e w2 ⟨rfl, hD⟩
  replace hS := hS.on hD
  replace hB := hB.trans (hD.mono hB.size)
  replace hT := hT.below hD
  clear hD
  rcases he with e3 | ⟨e3, e4⟩
  all_goals
    go_wp2_with fail
    go_ret
    exact ⟨rfl, hB⟩
set_option maxHeartbeats 8000000 in
set_option maxRecDepth 100000 in
theorem public_good (s : D4) (h : Nat) (w : World) (hs : s.ok) (hh : h ≤ 2) (hh4 : h ≤ 4) (hT : TurnsOk w) :
    Calls Tryd.prog 3 #[.agg #[.int .u32 s.d0, .int .u32 s.d1, .int .u32 s.d2, .int .u32 s.d3], .int .i64 (h : Int)] w fun e w' => e = .returned (.bool true) ∧ Below w.heap.size w w' := by
  have e3 : ((h : Int) == (3 : Int)) = false := by simp; omega
  have e4 : ((h : Int) == (4 : Int)) = false := by simp; omega
  obtain ⟨v, hv⟩ : ∃ v, pubK s h = v := ⟨_, rfl⟩
  have HV := Lib.hid hv
  clear hv
  have hE1 := eqD_yes v
  have hE2 := eqSR_yes s (h : Int) 0
  obtain ⟨w1, hw1⟩ : ∃ w', w.alloc (.cells #[.int .u32 s.d0, .int .u32 s.d1, .int .u32 s.d2, .int .u32 s.d3] 24) = w' := ⟨_, rfl⟩
  have hS : Box 24 w.heap.size [.int .u32 s.d0, .int .u32 s.d1, .int .u32 s.d2, .int .u32 s.d3] w1 := by rw [← hw1]; exact Box.new 24 [.int .u32 s.d0, .int .u32 s.d1, .int .u32 s.d2, .int .u32 s.d3] w
  have hD : Below w.heap.size w w1 := by rw [← hw1]; exact (Below.refl _ _).alloc (Nat.le_refl _) _
  have hB := hD
  replace hT := hT.below hD
  clear hD
  go_enter Tryd.func3, Tryd.ntmps3
  have chS0 := hS.cell (j := 0) (v := .int .u32 s.d0) rfl
  have chS1 := hS.cell (j := 1) (v := .int .u32 s.d1) rfl
  have chS2 := hS.cell (j := 2) (v := .int .u32 s.d2) rfl
  have chS3 := hS.cell (j := 3) (v := .int .u32 s.d3) rfl
  go_wp2_with fail
  clear hw1 chS0 chS1 chS2 chS3
  refine (awake6_any w1 hT).mono ?_
  rintro e w2 ⟨rfl, hD⟩
  replace hS := hS.on hD
  replace hB := hB.trans (hD.mono hB.size)
  replace hT := hT.below hD
  clear hD
  have chS0 := hS.cell (j := 0) (v := .int .u32 s.d0) rfl
  have chS1 := hS.cell (j := 1) (v := .int .u32 s.d1) rfl
  have chS2 := hS.cell (j := 2) (v := .int .u32 s.d2) rfl
  have chS3 := hS.cell (j := 3) (v := .int .u32 s.d3) rfl
  go_wp2_with fail
  clear chS0 chS1 chS2 chS3
  refine (cpub_nmy s v h w2 hs hh4 hT HV.out).mono ?_
  rintro e w3 ⟨rfl, hD⟩
  replace hS := hS.on hD
  replace hB := hB.trans (hD.mono hB.size)
  replace hT := hT.below hD
  clear hD
  obtain ⟨w4, hw4⟩ : ∃ w', w3.alloc (.cells #[.int .u32 v.d0, .int .u32 v.d1, .int .u32 v.d2, .int .u32 v.d3] 24) = w' := ⟨_, rfl⟩
  have hP : Box 24 w3.heap.size [.int .u32 v.d0, .int .u32 v.d1, .int .u32 v.d2, .int .u32 v.d3] w4 := by rw [← hw4]; exact Box.new 24 [.int .u32 v.d0, .int .u32 v.d1, .int .u32 v.d2, .int .u32 v.d3] w3
  have hD : Below w3.heap.size w3 w4 := by rw [← hw4]; exact (Below.refl _ _).alloc (Nat.le_refl _) _
  replace hS := hS.on hD
  replace hB := hB.trans (hD.mono hB.size)
  replace hT := hT.below hD
  clear hD
  have chS0 := hS.cell (j := 0) (v := .int .u32 s.d0) rfl
  have chS1 := hS.cell (j := 1) (v := .int .u32 s.d1) rfl
  have chS2 := hS.cell (j := 2) (v := .int .u32 s.d2) rfl
  have chS3 := hS.cell (j := 3) (v := .int .u32 s.d3) rfl
  go_wp2_with fail
  clear hw4 chS0 chS1 chS2 chS3
  refine (rpub_nmy s v h w4 hs hh4 HV.out).mono ?_
  rintro e w5 ⟨rfl, hD⟩
  replace hS := hS.on hD
  replace hP := hP.on hD
  replace hB := hB.trans (hD.mono hB.size)
  replace hT := hT.below hD
  clear hD
  obtain ⟨w6, hw6⟩ : ∃ w', w5.alloc (.cells #[.int .u32 v.d0, .int .u32 v.d1, .int .u32 v.d2, .int .u32 v.d3] 24) = w' := ⟨_, rfl⟩
  have hQ : Box 24 w5.heap.size [.int .u32 v.d0, .int .u32 v.d1, .int .u32 v.d2, .int .u32 v.d3] w6 := by rw [← hw6]; exact Box.new 24 [.int .u32 v.d0, .int .u32 v.d1, .int .u32 v.d2, .int .u32 v.d3] w5
  have hD : Below w5.heap.size w5 w6 := by rw [← hw6]; exact (Below.refl _ _).alloc (Nat.le_refl _) _
  replace hS := hS.on hD
  replace hP := hP.on hD
  replace hB := hB.trans (hD.mono hB.size)
  replace hT := hT.below hD
  clear hD
  have chS0 := hS.cell (j := 0) (v := .int .u32 s.d0) rfl
  have chS1 := hS.cell (j := 1) (v := .int .u32 s.d1) rfl
  have chS2 := hS.cell (j := 2) (v := .int .u32 s.d2) rfl
  have chS3 := hS.cell (j := 3) (v := .int .u32 s.d3) rfl
  go_wp2_with fail
  clear hw6 chS0 chS1 chS2 chS3
  refine (cnew6_yes s h hh4 w6).mono ?_
  rintro e w7 ⟨rfl, hD⟩
  replace hS := hS.on hD
  replace hP := hP.on hD
  replace hQ := hQ.on hD
  replace hB := hB.trans (hD.mono hB.size)
  replace hT := hT.below hD
  clear hD
  obtain ⟨w8, hw8⟩ : ∃ w', w7.alloc (.cells #[.int .u32 s.d0, .int .u32 s.d1, .int .u32 s.d2, .int .u32 s.d3, .int .i64 (h : Int), .int .i64 0] 30) = w' := ⟨_, rfl⟩
  have hN : Box 30 w7.heap.size [.int .u32 s.d0, .int .u32 s.d1, .int .u32 s.d2, .int .u32 s.d3, .int .i64 (h : Int), .int .i64 0] w8 := by rw [← hw8]; exact Box.new 30 [.int .u32 s.d0, .int .u32 s.d1, .int .u32 s.d2, .int .u32 s.d3, .int .i64 (h : Int), .int .i64 0] w7
  have hD : Below w7.heap.size w7 w8 := by rw [← hw8]; exact (Below.refl _ _).alloc (Nat.le_refl _) _
  have zhN5 := hN.cell (j := 5) (v := .int .i64 0) rfl
  have yhN5 := hN.fz 5
  obtain ⟨w9, hw9⟩ : ∃ w', (w8.setCell ⟨w7.heap.size, 5, none⟩ (.int .i64 0)) = w' := ⟨_, rfl⟩
  replace hN : Box 30 w7.heap.size [.int .u32 s.d0, .int .u32 s.d1, .int .u32 s.d2, .int .u32 s.d3, .int .i64 (h : Int), .int .i64 0] w9 := by rw [← hw9]; exact (hN.set 5 (.int .i64 0))
  replace hD : Below w7.heap.size w7 w9 := by rw [← hw9]; exact (hD.setCell (p := ⟨w7.heap.size, 5, none⟩) (Nat.le_refl _) (.int .i64 0))
  replace hS := hS.on hD
  replace hP := hP.on hD
  replace hQ := hQ.on hD
  replace hB := hB.trans (hD.mono hB.size)
  replace hT := hT.below hD
  clear hD
  have chS0 := hS.cell (j := 0) (v := .int .u32 s.d0) rfl
  have chS1 := hS.cell (j := 1) (v := .int .u32 s.d1) rfl
  have chS2 := hS.cell (j := 2) (v := .int .u32 s.d2) rfl
  have chS3 := hS.cell (j := 3) (v := .int .u32 s.d3) rfl
  have chP0 := hP.cell (j := 0) (v := .int .u32 v.d0) rfl
  have chP1 := hP.cell (j := 1) (v := .int .u32 v.d1) rfl
  have chP2 := hP.cell (j := 2) (v := .int .u32 v.d2) rfl
  have chP3 := hP.cell (j := 3) (v := .int .u32 v.d3) rfl
  have chQ0 := hQ.cell (j := 0) (v := .int .u32 v.d0) rfl
  have chQ1 := hQ.cell (j := 1) (v := .int .u32 v.d1) rfl
  have chQ2 := hQ.cell (j := 2) (v := .int .u32 v.d2) rfl
  have chQ3 := hQ.cell (j := 3) (v := .int .u32 v.d3) rfl
  have chN0 := hN.cell (j := 0) (v := .int .u32 s.d0) rfl
  have chN1 := hN.cell (j := 1) (v := .int .u32 s.d1) rfl
  have chN2 := hN.cell (j := 2) (v := .int .u32 s.d2) rfl
  have chN3 := hN.cell (j := 3) (v := .int .u32 s.d3) rfl
  have chN4 := hN.cell (j := 4) (v := .int .i64 (h : Int)) rfl
  have chN5 := hN.cell (j := 5) (v := .int .i64 0) rfl
  go_wp2_with fail
  clear hw8 zhN5 yhN5 hw9 chS0 chS1 chS2 chS3 chP0 chP1 chP2 chP3 chQ0 chQ1 chQ2 chQ3 chN0 chN1 chN2 chN3 chN4 chN5
  go_ret
  exact ⟨rfl, hB⟩
set_option maxHeartbeats 8000000 in
set_option maxRecDepth 100000 in
theorem public_bad (s : D4) (h : Int) (w : World) (hh : h < 0 ∨ 4 < h) (hT : TurnsOk w) :
    Calls Tryd.prog 3 #[.agg #[.int .u32 s.d0, .int .u32 s.d1, .int .u32 s.d2, .int .u32 s.d3], .int .i64 h] w fun e w' => e = .returned (.bool true) ∧ Below w.heap.size w w' := by
  have e3 : (h == (3 : Int)) = false := by simp; omega
  have e4 : (h == (4 : Int)) = false := by simp; omega
  have hE1 := eqD_yes zeroD
  simp only [zeroD] at hE1
  have hE2 := eqSR_yes zeroD 0 0
  simp only [zeroD] at hE2
  have HH := Lib.hid hh
  clear hh
  obtain ⟨w1, hw1⟩ : ∃ w', w.alloc (.cells #[.int .u32 s.d0, .int .u32 s.d1, .int .u32 s.d2, .int .u32 s.d3] 24) = w' := ⟨_, rfl⟩
  have hS : Box 24 w.heap.size [.int .u32 s.d0, .int .u32 s.d1, .int .u32 s.d2, .int .u32 s.d3] w1 := by rw [← hw1]; exact Box.new 24 [.int .u32 s.d0, .int .u32 s.d1, .int .u32 s.d2, .int .u32 s.d3] w
  have hD : Below w.heap.size w w1 := by rw [← hw1]; exact (Below.refl _ _).alloc (Nat.le_refl _) _
  have hB := hD
  replace hT := hT.below hD
  clear hD
  go_enter Tryd.func3, Tryd.ntmps3
  have chS0 := hS.cell (j := 0) (v := .int .u32 s.d0) rfl
  have chS1 := hS.cell (j := 1) (v := .int .u32 s.d1) rfl
  have chS2 := hS.cell (j := 2) (v := .int .u32 s.d2) rfl
  have chS3 := hS.cell (j := 3) (v := .int .u32 s.d3) rfl
  go_wp2_with fail
  clear hw1 chS0 chS1 chS2 chS3
  refine (awake6_any w1 hT).mono ?_
  rintro e w2 ⟨rfl, hD⟩
  replace hS := hS.on hD
  replace hB := hB.trans (hD.mono hB.size)
  replace hT := hT.below hD
  clear hD
  have chS0 := hS.cell (j := 0) (v := .int .u32 s.d0) rfl
  have chS1 := hS.cell (j := 1) (v := .int .u32 s.d1) rfl
  have chS2 := hS.cell (j := 2) (v := .int .u32 s.d2) rfl
  have chS3 := hS.cell (j := 3) (v := .int .u32 s.d3) rfl
  go_wp2_with fail
  clear chS0 chS1 chS2 chS3
  refine (cpub_nmn s h w2 HH.out).mono ?_
  rintro e w3 ⟨rfl, hD⟩
  replace hS := hS.on hD
  replace hB := hB.trans (hD.mono hB.size)
  replace hT := hT.below hD
  clear hD
  obtain ⟨w4, hw4⟩ : ∃ w', w3.alloc (.cells #[.int .u32 0, .int .u32 0, .int .u32 0, .int .u32 0] 24) = w' := ⟨_, rfl⟩
  have hP : Box 24 w3.heap.size [.int .u32 0, .int .u32 0, .int .u32 0, .int .u32 0] w4 := by rw [← hw4]; exact Box.new 24 [.int .u32 0, .int .u32 0, .int .u32 0, .int .u32 0] w3
  have hD : Below w3.heap.size w3 w4 := by rw [← hw4]; exact (Below.refl _ _).alloc (Nat.le_refl _) _
  have zhP0 := hP.cell (j := 0) (v := .int .u32 0) rfl
  have yhP0 := hP.fz 0
  have zhP1 := hP.cell (j := 1) (v := .int .u32 0) rfl
  have yhP1 := hP.fz 1
  have zhP2 := hP.cell (j := 2) (v := .int .u32 0) rfl
  have yhP2 := hP.fz 2
  have zhP3 := hP.cell (j := 3) (v := .int .u32 0) rfl
  have yhP3 := hP.fz 3
  obtain ⟨w5, hw5⟩ : ∃ w', ((((w4.setCell ⟨w3.heap.size, 0, none⟩ (.int .u32 0)).setCell ⟨w3.heap.size, 1, none⟩ (.int .u32 0)).setCell ⟨w3.heap.size, 2, none⟩ (.int .u32 0)).setCell ⟨w3.heap.size, 3, none⟩ (.int .u32 0)) = w' := ⟨_, rfl⟩
  replace hP : Box 24 w3.heap.size [.int .u32 0, .int .u32 0, .int .u32 0, .int .u32 0] w5 := by rw [← hw5]; exact ((((hP.set 0 (.int .u32 0)).set 1 (.int .u32 0)).set 2 (.int .u32 0)).set 3 (.int .u32 0))
  replace hD : Below w3.heap.size w3 w5 := by rw [← hw5]; exact ((((hD.setCell (p := ⟨w3.heap.size, 0, none⟩) (Nat.le_refl _) (.int .u32 0)).setCell (p := ⟨w3.heap.size, 1, none⟩) (Nat.le_refl _) (.int .u32 0)).setCell (p := ⟨w3.heap.size, 2, none⟩) (Nat.le_refl _) (.int .u32 0)).setCell (p := ⟨w3.heap.size, 3, none⟩) (Nat.le_refl _) (.int .u32 0))
  replace hS := hS.on hD
  replace hB := hB.trans (hD.mono hB.size)
  replace hT := hT.below hD
  clear hD
  have chS0 := hS.cell (j := 0) (v := .int .u32 s.d0) rfl
  have chS1 := hS.cell (j := 1) (v := .int .u32 s.d1) rfl
  have chS2 := hS.cell (j := 2) (v := .int .u32 s.d2) rfl
  have chS3 := hS.cell (j := 3) (v := .int .u32 s.d3) rfl
  go_wp2_with fail
  clear hw4 zhP0 yhP0 zhP1 yhP1 zhP2 yhP2 zhP3 yhP3 hw5 chS0 chS1 chS2 chS3
  refine (rpub_nmn s h w5 HH.out).mono ?_
  rintro e w6 ⟨rfl, hD⟩
  replace hS := hS.on hD
  replace hP := hP.on hD
  replace hB := hB.trans (hD.mono hB.size)
  replace hT := hT.below hD
  clear hD
  obtain ⟨w7, hw7⟩ : ∃ w', w6.alloc (.cells #[.int .u32 0, .int .u32 0, .int .u32 0, .int .u32 0] 24) = w' := ⟨_, rfl⟩
  have hQ : Box 24 w6.heap.size [.int .u32 0, .int .u32 0, .int .u32 0, .int .u32 0] w7 := by rw [← hw7]; exact Box.new 24 [.int .u32 0, .int .u32 0, .int .u32 0, .int .u32 0] w6
  have hD : Below w6.heap.size w6 w7 := by rw [← hw7]; exact (Below.refl _ _).alloc (Nat.le_refl _) _
  have zhQ0 := hQ.cell (j := 0) (v := .int .u32 0) rfl
  have yhQ0 := hQ.fz 0
  have zhQ1 := hQ.cell (j := 1) (v := .int .u32 0) rfl
  have yhQ1 := hQ.fz 1
  have zhQ2 := hQ.cell (j := 2) (v := .int .u32 0) rfl
  have yhQ2 := hQ.fz 2
  have zhQ3 := hQ.cell (j := 3) (v := .int .u32 0) rfl
  have yhQ3 := hQ.fz 3
  obtain ⟨w8, hw8⟩ : ∃ w', ((((w7.setCell ⟨w6.heap.size, 0, none⟩ (.int .u32 0)).setCell ⟨w6.heap.size, 1, none⟩ (.int .u32 0)).setCell ⟨w6.heap.size, 2, none⟩ (.int .u32 0)).setCell ⟨w6.heap.size, 3, none⟩ (.int .u32 0)) = w' := ⟨_, rfl⟩
  replace hQ : Box 24 w6.heap.size [.int .u32 0, .int .u32 0, .int .u32 0, .int .u32 0] w8 := by rw [← hw8]; exact ((((hQ.set 0 (.int .u32 0)).set 1 (.int .u32 0)).set 2 (.int .u32 0)).set 3 (.int .u32 0))
  replace hD : Below w6.heap.size w6 w8 := by rw [← hw8]; exact ((((hD.setCell (p := ⟨w6.heap.size, 0, none⟩) (Nat.le_refl _) (.int .u32 0)).setCell (p := ⟨w6.heap.size, 1, none⟩) (Nat.le_refl _) (.int .u32 0)).setCell (p := ⟨w6.heap.size, 2, none⟩) (Nat.le_refl _) (.int .u32 0)).setCell (p := ⟨w6.heap.size, 3, none⟩) (Nat.le_refl _) (.int .u32 0))
  replace hS := hS.on hD
  replace hP := hP.on hD
  replace hB := hB.trans (hD.mono hB.size)
  replace hT := hT.below hD
  clear hD
  have chS0 := hS.cell (j := 0) (v := .int .u32 s.d0) rfl
  have chS1 := hS.cell (j := 1) (v := .int .u32 s.d1) rfl
  have chS2 := hS.cell (j := 2) (v := .int .u32 s.d2) rfl
  have chS3 := hS.cell (j := 3) (v := .int .u32 s.d3) rfl
  go_wp2_with fail
  clear hw7 zhQ0 yhQ0 zhQ1 yhQ1 zhQ2 yhQ2 zhQ3 yhQ3 hw8 chS0 chS1 chS2 chS3
  refine (cnew6_no s h HH.out w8).mono ?_
  rintro e w9 ⟨rfl, hD⟩
  replace hS := hS.on hD
  replace hP := hP.on hD
  replace hQ := hQ.on hD
  replace hB := hB.trans (hD.mono hB.size)
  replace hT := hT.below hD
  clear hD
  obtain ⟨w10, hw10⟩ : ∃ w', w9.alloc (.cells #[.int .u32 0, .int .u32 0, .int .u32 0, .int .u32 0, .int .i64 0, .int .i64 0] 30) = w' := ⟨_, rfl⟩
  have hN : Box 30 w9.heap.size [.int .u32 0, .int .u32 0, .int .u32 0, .int .u32 0, .int .i64 0, .int .i64 0] w10 := by rw [← hw10]; exact Box.new 30 [.int .u32 0, .int .u32 0, .int .u32 0, .int .u32 0, .int .i64 0, .int .i64 0] w9
  have hD : Below w9.heap.size w9 w10 := by rw [← hw10]; exact (Below.refl _ _).alloc (Nat.le_refl _) _
  have zhN0 := hN.cell (j := 0) (v := .int .u32 0) rfl
  have yhN0 := hN.fz 0
  have zhN1 := hN.cell (j := 1) (v := .int .u32 0) rfl
  have yhN1 := hN.fz 1
  have zhN2 := hN.cell (j := 2) (v := .int .u32 0) rfl
  have yhN2 := hN.fz 2
  have zhN3 := hN.cell (j := 3) (v := .int .u32 0) rfl
  have yhN3 := hN.fz 3
  have zhN4 := hN.cell (j := 4) (v := .int .i64 0) rfl
  have yhN4 := hN.fz 4
  have zhN5 := hN.cell (j := 5) (v := .int .i64 0) rfl
  have yhN5 := hN.fz 5
  obtain ⟨w11, hw11⟩ : ∃ w', ((((((w10.setCell ⟨w9.heap.size, 0, none⟩ (.int .u32 0)).setCell ⟨w9.heap.size, 1, none⟩ (.int .u32 0)).setCell ⟨w9.heap.size, 2, none⟩ (.int .u32 0)).setCell ⟨w9.heap.size, 3, none⟩ (.int .u32 0)).setCell ⟨w9.heap.size, 4, none⟩ (.int .i64 0)).setCell ⟨w9.heap.size, 5, none⟩ (.int .i64 0)) = w' := ⟨_, rfl⟩
  replace hN : Box 30 w9.heap.size [.int .u32 0, .int .u32 0, .int .u32 0, .int .u32 0, .int .i64 0, .int .i64 0] w11 := by rw [← hw11]; exact ((((((hN.set 0 (.int .u32 0)).set 1 (.int .u32 0)).set 2 (.int .u32 0)).set 3 (.int .u32 0)).set 4 (.int .i64 0)).set 5 (.int .i64 0))
  replace hD : Below w9.heap.size w9 w11 := by rw [← hw11]; exact ((((((hD.setCell (p := ⟨w9.heap.size, 0, none⟩) (Nat.le_refl _) (.int .u32 0)).setCell (p := ⟨w9.heap.size, 1, none⟩) (Nat.le_refl _) (.int .u32 0)).setCell (p := ⟨w9.heap.size, 2, none⟩) (Nat.le_refl _) (.int .u32 0)).setCell (p := ⟨w9.heap.size, 3, none⟩) (Nat.le_refl _) (.int .u32 0)).setCell (p := ⟨w9.heap.size, 4, none⟩) (Nat.le_refl _) (.int .i64 0)).setCell (p := ⟨w9.heap.size, 5, none⟩) (Nat.le_refl _) (.int .i64 0))
  replace hS := hS.on hD
  replace hP := hP.on hD
  replace hQ := hQ.on hD
  replace hB := hB.trans (hD.mono hB.size)
  replace hT := hT.below hD
  clear hD
  have chS0 := hS.cell (j := 0) (v := .int .u32 s.d0) rfl
  have chS1 := hS.cell (j := 1) (v := .int .u32 s.d1) rfl
  have chS2 := hS.cell (j := 2) (v := .int .u32 s.d2) rfl
  have chS3 := hS.cell (j := 3) (v := .int .u32 s.d3) rfl
  have chP0 := hP.cell (j := 0) (v := .int .u32 0) rfl
  have chP1 := hP.cell (j := 1) (v := .int .u32 0) rfl
  have chP2 := hP.cell (j := 2) (v := .int .u32 0) rfl
  have chP3 := hP.cell (j := 3) (v := .int .u32 0) rfl
  have chQ0 := hQ.cell (j := 0) (v := .int .u32 0) rfl
  have chQ1 := hQ.cell (j := 1) (v := .int .u32 0) rfl
  have chQ2 := hQ.cell (j := 2) (v := .int .u32 0) rfl
  have chQ3 := hQ.cell (j := 3) (v := .int .u32 0) rfl
  have chN0 := hN.cell (j := 0) (v := .int .u32 0) rfl
  have chN1 := hN.cell (j := 1) (v := .int .u32 0) rfl
  have chN2 := hN.cell (j := 2) (v := .int .u32 0) rfl
  have chN3 := hN.cell (j := 3) (v := .int .u32 0) rfl
  have chN4 := hN.cell (j := 4) (v := .int .i64 0) rfl
  have chN5 := hN.cell (j := 5) (v := .int .i64 0) rfl
  go_wp2_with fail
  clear hw10 zhN0 yhN0 zhN1 yhN1 zhN2 yhN2 zhN3 yhN3 zhN4 yhN4 zhN5 yhN5 hw11 chS0 chS1 chS2 chS3 chP0 chP1 chP2 chP3 chQ0 chQ1 chQ2 chQ3 chN0 chN1 chN2 chN3 chN4 chN5
  go_ret
  exact ⟨rfl, hB⟩
theorem public_walk (s : D4) (h : Int) (w : World) (hs : s.ok) (hT : TurnsOk w) :
    Calls Tryd.prog 3 #[.agg #[.int .u32 s.d0, .int .u32 s.d1, .int .u32 s.d2, .int .u32 s.d3], .int .i64 h] w fun e w' => e = .returned (.bool true) ∧ Below w.heap.size w w' := by
  by_cases h1 : h = 3 ∨ h = 4
  · exact public_mid s h w h1 hT
  · by_cases h2 : h < 0 ∨ 4 < h
    · exact public_bad s h w h2 hT
    · obtain ⟨n, rfl⟩ := Int.eq_ofNat_of_zero_le (show 0 ≤ h by omega)
      exact public_good s n w hs (by omega) (by omega) hT
end Go.Proofs.YtdphhpmkcalahaaDoor
