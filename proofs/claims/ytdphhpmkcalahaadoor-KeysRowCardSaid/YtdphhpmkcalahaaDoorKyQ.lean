/-
  KeysSigns: the walks (written by gen_law62.py).
-/
import Derived.Test.YtdphhpmkcalahaaDoorKyP
namespace Go.Proofs.YtdphhpmkcalahaaDoor
open Go.RowKit

theorem rdS_nil6 (w : World) (p : Option Addr) : RdS w p [] := fun h => absurd rfl h
theorem rsame_yes (i : Int) (S Q : List D4) (p q p' q' : Option Addr) (n c m d c' d' : Nat) (w : World) (hn : n = S.length) (hm : m = Q.length) (hS : RdS w p S) (hQ : RdS w q Q) (hS' : RdS w p' S) (hQ' : RdS w q' Q) (hc : n ≤ c) (hcm : c ≤ maxLen) (hd : m ≤ d) (hdm : d ≤ maxLen) (hc' : n ≤ c') (hcm' : c' ≤ maxLen) (hd' : m ≤ d') (hdm' : d' ≤ maxLen) :
    Calls Tryd.prog 16 #[.agg #[.int .i64 i, .slice p n c, .slice q m d], .agg #[.int .i64 i, .slice p' n c', .slice q' m d']] w fun e w' => e = .returned (.bool true) ∧ Below w.heap.size w w' :=
  rsame6_any i i S Q S Q true true true p q p' q' n c m d n c' m d' w hn hm hn hm hS hQ hS' hQ' hc hcm hd hdm hc' hcm' hd' hdm' (by simp) (by simp) (by simp)
theorem rsame_zero (w : World) :
    Calls Tryd.prog 16 #[.agg #[.int .i64 0, .slice none 0 0, .slice none 0 0], .agg #[.int .i64 0, .slice none 0 0, .slice none 0 0]] w fun e w' => e = .returned (.bool true) ∧ Below w.heap.size w w' :=
  rsame_yes 0 [] [] none none none none 0 0 0 0 0 0 w rfl rfl (rdS_nil6 w _) (rdS_nil6 w _) (rdS_nil6 w _) (rdS_nil6 w _) (Nat.le_refl _) (Nat.zero_le _) (Nat.le_refl _) (Nat.zero_le _) (Nat.le_refl _) (Nat.zero_le _) (Nat.le_refl _) (Nat.zero_le _)
set_option maxHeartbeats 8000000 in
set_option maxRecDepth 100000 in
theorem signs_mid (s msg : D4) (a b : Int) (w : World) (hh : a = 3 ∨ a = 4) (hT : TurnsOk w) :
    Calls Tryd.prog 4 #[.agg #[.int .u32 s.d0, .int .u32 s.d1, .int .u32 s.d2, .int .u32 s.d3], .agg #[.int .i64 a, .int .i64 b], .agg #[.int .u32 msg.d0, .int .u32 msg.d1, .int .u32 msg.d2, .int .u32 msg.d3]] w fun e w' => e = .returned (.bool true) ∧ Below w.heap.size w w' := by
  have he : (a == (3 : Int)) = true ∨ ((a == (3 : Int)) = false ∧ (a == (4 : Int)) = true) := by simp; omega
  clear hh
  obtain ⟨w1, hw1⟩ : ∃ w', w.alloc (.cells #[.int .u32 s.d0, .int .u32 s.d1, .int .u32 s.d2, .int .u32 s.d3] 24) = w' := ⟨_, rfl⟩
  have hS : Box 24 w.heap.size [.int .u32 s.d0, .int .u32 s.d1, .int .u32 s.d2, .int .u32 s.d3] w1 := by rw [← hw1]; exact Box.new 24 [.int .u32 s.d0, .int .u32 s.d1, .int .u32 s.d2, .int .u32 s.d3] w
  have hD : Below w.heap.size w w1 := by rw [← hw1]; exact (Below.refl _ _).alloc (Nat.le_refl _) _
  have hB := hD
  replace hT := hT.below hD
  clear hD
  obtain ⟨w2, hw2⟩ : ∃ w', w1.alloc (.cells #[.int .i64 a, .int .i64 b] 34) = w' := ⟨_, rfl⟩
  have hA : Box 34 w1.heap.size [.int .i64 a, .int .i64 b] w2 := by rw [← hw2]; exact Box.new 34 [.int .i64 a, .int .i64 b] w1
  have hD : Below w1.heap.size w1 w2 := by rw [← hw2]; exact (Below.refl _ _).alloc (Nat.le_refl _) _
  replace hS := hS.on hD
  replace hB := hB.trans (hD.mono hB.size)
  replace hT := hT.below hD
  clear hD
  obtain ⟨w3, hw3⟩ : ∃ w', w2.alloc (.cells #[.int .u32 msg.d0, .int .u32 msg.d1, .int .u32 msg.d2, .int .u32 msg.d3] 24) = w' := ⟨_, rfl⟩
  have hM : Box 24 w2.heap.size [.int .u32 msg.d0, .int .u32 msg.d1, .int .u32 msg.d2, .int .u32 msg.d3] w3 := by rw [← hw3]; exact Box.new 24 [.int .u32 msg.d0, .int .u32 msg.d1, .int .u32 msg.d2, .int .u32 msg.d3] w2
  have hD : Below w2.heap.size w2 w3 := by rw [← hw3]; exact (Below.refl _ _).alloc (Nat.le_refl _) _
  replace hS := hS.on hD
  replace hA := hA.on hD
  replace hB := hB.trans (hD.mono hB.size)
  replace hT := hT.below hD
  clear hD
  go_enter Tryd.func4, Tryd.ntmps4
  have chS0 := hS.cell (j := 0) (v := .int .u32 s.d0) rfl
  have chS1 := hS.cell (j := 1) (v := .int .u32 s.d1) rfl
  have chS2 := hS.cell (j := 2) (v := .int .u32 s.d2) rfl
  have chS3 := hS.cell (j := 3) (v := .int .u32 s.d3) rfl
  have chA0 := hA.cell (j := 0) (v := .int .i64 a) rfl
  have chA1 := hA.cell (j := 1) (v := .int .i64 b) rfl
  have chM0 := hM.cell (j := 0) (v := .int .u32 msg.d0) rfl
  have chM1 := hM.cell (j := 1) (v := .int .u32 msg.d1) rfl
  have chM2 := hM.cell (j := 2) (v := .int .u32 msg.d2) rfl
  have chM3 := hM.cell (j := 3) (v := .int .u32 msg.d3) rfl
  go_wp2_with fail
  clear hw1 hw2 hw3 chS0 chS1 chS2 chS3 chA0 chA1 chM0 chM1 chM2 chM3
  refine (awake6_any w3 hT).mono ?_
  rintro e w4 ⟨rfl, hD⟩
  replace hS := hS.on hD
  replace hA := hA.on hD
  replace hM := hM.on hD
  replace hB := hB.trans (hD.mono hB.size)
  replace hT := hT.below hD
  clear hD
  have chA0 := hA.cell (j := 0) (v := .int .i64 a) rfl
  have chA1 := hA.cell (j := 1) (v := .int .i64 b) rfl
  rcases he with e3 | ⟨e3, e4⟩
  all_goals
    go_wp2_with fail
    go_ret
    exact ⟨rfl, hB⟩
set_option maxHeartbeats 8000000 in
set_option maxRecDepth 100000 in
theorem signs_high (s msg : D4) (a b : Int) (w : World) (hh : a < 0 ∨ 4 < a) (hT : TurnsOk w) :
    Calls Tryd.prog 4 #[.agg #[.int .u32 s.d0, .int .u32 s.d1, .int .u32 s.d2, .int .u32 s.d3], .agg #[.int .i64 a, .int .i64 b], .agg #[.int .u32 msg.d0, .int .u32 msg.d1, .int .u32 msg.d2, .int .u32 msg.d3]] w fun e w' => e = .returned (.bool true) ∧ Below w.heap.size w w' := by
  have e3 : (a == (3 : Int)) = false := by simp; omega
  have e4 : (a == (4 : Int)) = false := by simp; omega
  have HH := Lib.hid hh
  clear hh
  obtain ⟨w1, hw1⟩ : ∃ w', w.alloc (.cells #[.int .u32 s.d0, .int .u32 s.d1, .int .u32 s.d2, .int .u32 s.d3] 24) = w' := ⟨_, rfl⟩
  have hS : Box 24 w.heap.size [.int .u32 s.d0, .int .u32 s.d1, .int .u32 s.d2, .int .u32 s.d3] w1 := by rw [← hw1]; exact Box.new 24 [.int .u32 s.d0, .int .u32 s.d1, .int .u32 s.d2, .int .u32 s.d3] w
  have hD : Below w.heap.size w w1 := by rw [← hw1]; exact (Below.refl _ _).alloc (Nat.le_refl _) _
  have hB := hD
  replace hT := hT.below hD
  clear hD
  obtain ⟨w2, hw2⟩ : ∃ w', w1.alloc (.cells #[.int .i64 a, .int .i64 b] 34) = w' := ⟨_, rfl⟩
  have hA : Box 34 w1.heap.size [.int .i64 a, .int .i64 b] w2 := by rw [← hw2]; exact Box.new 34 [.int .i64 a, .int .i64 b] w1
  have hD : Below w1.heap.size w1 w2 := by rw [← hw2]; exact (Below.refl _ _).alloc (Nat.le_refl _) _
  replace hS := hS.on hD
  replace hB := hB.trans (hD.mono hB.size)
  replace hT := hT.below hD
  clear hD
  obtain ⟨w3, hw3⟩ : ∃ w', w2.alloc (.cells #[.int .u32 msg.d0, .int .u32 msg.d1, .int .u32 msg.d2, .int .u32 msg.d3] 24) = w' := ⟨_, rfl⟩
  have hM : Box 24 w2.heap.size [.int .u32 msg.d0, .int .u32 msg.d1, .int .u32 msg.d2, .int .u32 msg.d3] w3 := by rw [← hw3]; exact Box.new 24 [.int .u32 msg.d0, .int .u32 msg.d1, .int .u32 msg.d2, .int .u32 msg.d3] w2
  have hD : Below w2.heap.size w2 w3 := by rw [← hw3]; exact (Below.refl _ _).alloc (Nat.le_refl _) _
  replace hS := hS.on hD
  replace hA := hA.on hD
  replace hB := hB.trans (hD.mono hB.size)
  replace hT := hT.below hD
  clear hD
  go_enter Tryd.func4, Tryd.ntmps4
  have chS0 := hS.cell (j := 0) (v := .int .u32 s.d0) rfl
  have chS1 := hS.cell (j := 1) (v := .int .u32 s.d1) rfl
  have chS2 := hS.cell (j := 2) (v := .int .u32 s.d2) rfl
  have chS3 := hS.cell (j := 3) (v := .int .u32 s.d3) rfl
  have chA0 := hA.cell (j := 0) (v := .int .i64 a) rfl
  have chA1 := hA.cell (j := 1) (v := .int .i64 b) rfl
  have chM0 := hM.cell (j := 0) (v := .int .u32 msg.d0) rfl
  have chM1 := hM.cell (j := 1) (v := .int .u32 msg.d1) rfl
  have chM2 := hM.cell (j := 2) (v := .int .u32 msg.d2) rfl
  have chM3 := hM.cell (j := 3) (v := .int .u32 msg.d3) rfl
  go_wp2_with fail
  clear hw1 hw2 hw3 chS0 chS1 chS2 chS3 chA0 chA1 chM0 chM1 chM2 chM3
  refine (awake6_any w3 hT).mono ?_
  rintro e w4 ⟨rfl, hD⟩
  replace hS := hS.on hD
  replace hA := hA.on hD
  replace hM := hM.on hD
  replace hB := hB.trans (hD.mono hB.size)
  replace hT := hT.below hD
  clear hD
  have chS0 := hS.cell (j := 0) (v := .int .u32 s.d0) rfl
  have chS1 := hS.cell (j := 1) (v := .int .u32 s.d1) rfl
  have chS2 := hS.cell (j := 2) (v := .int .u32 s.d2) rfl
  have chS3 := hS.cell (j := 3) (v := .int .u32 s.d3) rfl
  have chA0 := hA.cell (j := 0) (v := .int .i64 a) rfl
  have chA1 := hA.cell (j := 1) (v := .int .i64 b) rfl
  have chM0 := hM.cell (j := 0) (v := .int .u32 msg.d0) rfl
  have chM1 := hM.cell (j := 1) (v := .int .u32 msg.d1) rfl
  have chM2 := hM.cell (j := 2) (v := .int .u32 msg.d2) rfl
  have chM3 := hM.cell (j := 3) (v := .int .u32 msg.d3) rfl
  go_wp2_with fail
  clear chS0 chS1 chS2 chS3 chA0 chA1 chM0 chM1 chM2 chM3
  refine (csign6_range s msg a b w4 HH.out).mono ?_
  rintro e w5 ⟨rfl, hD⟩
  replace hS := hS.on hD
  replace hA := hA.on hD
  replace hM := hM.on hD
  replace hB := hB.trans (hD.mono hB.size)
  replace hT := hT.below hD
  clear hD
  obtain ⟨w6, hw6⟩ : ∃ w', w5.alloc (.cells #[.int .i64 0, .slice none 0 0, .slice none 0 0] 38) = w' := ⟨_, rfl⟩
  have hX : Box 38 w5.heap.size [.int .i64 0, .slice none 0 0, .slice none 0 0] w6 := by rw [← hw6]; exact Box.new 38 [.int .i64 0, .slice none 0 0, .slice none 0 0] w5
  have hD : Below w5.heap.size w5 w6 := by rw [← hw6]; exact (Below.refl _ _).alloc (Nat.le_refl _) _
  have zhX0 := hX.cell (j := 0) (v := .int .i64 0) rfl
  have yhX0 := hX.fz 0
  have zhX1 := hX.cell (j := 1) (v := .slice none 0 0) rfl
  have yhX1 := hX.fz 1
  have zhX2 := hX.cell (j := 2) (v := .slice none 0 0) rfl
  have yhX2 := hX.fz 2
  obtain ⟨w7, hw7⟩ : ∃ w', (((w6.setCell ⟨w5.heap.size, 0, none⟩ (.int .i64 0)).setCell ⟨w5.heap.size, 1, none⟩ (.slice none 0 0)).setCell ⟨w5.heap.size, 2, none⟩ (.slice none 0 0)) = w' := ⟨_, rfl⟩
  replace hX : Box 38 w5.heap.size [.int .i64 0, .slice none 0 0, .slice none 0 0] w7 := by rw [← hw7]; exact (((hX.set 0 (.int .i64 0)).set 1 (.slice none 0 0)).set 2 (.slice none 0 0))
  replace hD : Below w5.heap.size w5 w7 := by rw [← hw7]; exact (((hD.setCell (p := ⟨w5.heap.size, 0, none⟩) (Nat.le_refl _) (.int .i64 0)).setCell (p := ⟨w5.heap.size, 1, none⟩) (Nat.le_refl _) (.slice none 0 0)).setCell (p := ⟨w5.heap.size, 2, none⟩) (Nat.le_refl _) (.slice none 0 0))
  replace hS := hS.on hD
  replace hA := hA.on hD
  replace hM := hM.on hD
  replace hB := hB.trans (hD.mono hB.size)
  replace hT := hT.below hD
  clear hD
  have chS0 := hS.cell (j := 0) (v := .int .u32 s.d0) rfl
  have chS1 := hS.cell (j := 1) (v := .int .u32 s.d1) rfl
  have chS2 := hS.cell (j := 2) (v := .int .u32 s.d2) rfl
  have chS3 := hS.cell (j := 3) (v := .int .u32 s.d3) rfl
  have chA0 := hA.cell (j := 0) (v := .int .i64 a) rfl
  have chA1 := hA.cell (j := 1) (v := .int .i64 b) rfl
  have chM0 := hM.cell (j := 0) (v := .int .u32 msg.d0) rfl
  have chM1 := hM.cell (j := 1) (v := .int .u32 msg.d1) rfl
  have chM2 := hM.cell (j := 2) (v := .int .u32 msg.d2) rfl
  have chM3 := hM.cell (j := 3) (v := .int .u32 msg.d3) rfl
  have chX0 := hX.cell (j := 0) (v := .int .i64 0) rfl
  have chX1 := hX.cell (j := 1) (v := .slice none 0 0) rfl
  have chX2 := hX.cell (j := 2) (v := .slice none 0 0) rfl
  go_wp2_with fail
  clear hw6 zhX0 yhX0 zhX1 yhX1 zhX2 yhX2 hw7 chS0 chS1 chS2 chS3 chA0 chA1 chM0 chM1 chM2 chM3 chX0 chX1 chX2
  refine (rsign6_range s msg a b w7 HH.out).mono ?_
  rintro e w8 ⟨rfl, hD⟩
  replace hS := hS.on hD
  replace hA := hA.on hD
  replace hM := hM.on hD
  replace hX := hX.on hD
  replace hB := hB.trans (hD.mono hB.size)
  replace hT := hT.below hD
  clear hD
  obtain ⟨w9, hw9⟩ : ∃ w', w8.alloc (.cells #[.int .i64 0, .slice none 0 0, .slice none 0 0] 38) = w' := ⟨_, rfl⟩
  have hY : Box 38 w8.heap.size [.int .i64 0, .slice none 0 0, .slice none 0 0] w9 := by rw [← hw9]; exact Box.new 38 [.int .i64 0, .slice none 0 0, .slice none 0 0] w8
  have hD : Below w8.heap.size w8 w9 := by rw [← hw9]; exact (Below.refl _ _).alloc (Nat.le_refl _) _
  have zhY0 := hY.cell (j := 0) (v := .int .i64 0) rfl
  have yhY0 := hY.fz 0
  have zhY1 := hY.cell (j := 1) (v := .slice none 0 0) rfl
  have yhY1 := hY.fz 1
  have zhY2 := hY.cell (j := 2) (v := .slice none 0 0) rfl
  have yhY2 := hY.fz 2
  obtain ⟨w10, hw10⟩ : ∃ w', (((w9.setCell ⟨w8.heap.size, 0, none⟩ (.int .i64 0)).setCell ⟨w8.heap.size, 1, none⟩ (.slice none 0 0)).setCell ⟨w8.heap.size, 2, none⟩ (.slice none 0 0)) = w' := ⟨_, rfl⟩
  replace hY : Box 38 w8.heap.size [.int .i64 0, .slice none 0 0, .slice none 0 0] w10 := by rw [← hw10]; exact (((hY.set 0 (.int .i64 0)).set 1 (.slice none 0 0)).set 2 (.slice none 0 0))
  replace hD : Below w8.heap.size w8 w10 := by rw [← hw10]; exact (((hD.setCell (p := ⟨w8.heap.size, 0, none⟩) (Nat.le_refl _) (.int .i64 0)).setCell (p := ⟨w8.heap.size, 1, none⟩) (Nat.le_refl _) (.slice none 0 0)).setCell (p := ⟨w8.heap.size, 2, none⟩) (Nat.le_refl _) (.slice none 0 0))
  replace hS := hS.on hD
  replace hA := hA.on hD
  replace hM := hM.on hD
  replace hX := hX.on hD
  replace hB := hB.trans (hD.mono hB.size)
  replace hT := hT.below hD
  clear hD
  have chS0 := hS.cell (j := 0) (v := .int .u32 s.d0) rfl
  have chS1 := hS.cell (j := 1) (v := .int .u32 s.d1) rfl
  have chS2 := hS.cell (j := 2) (v := .int .u32 s.d2) rfl
  have chS3 := hS.cell (j := 3) (v := .int .u32 s.d3) rfl
  have chA0 := hA.cell (j := 0) (v := .int .i64 a) rfl
  have chA1 := hA.cell (j := 1) (v := .int .i64 b) rfl
  have chM0 := hM.cell (j := 0) (v := .int .u32 msg.d0) rfl
  have chM1 := hM.cell (j := 1) (v := .int .u32 msg.d1) rfl
  have chM2 := hM.cell (j := 2) (v := .int .u32 msg.d2) rfl
  have chM3 := hM.cell (j := 3) (v := .int .u32 msg.d3) rfl
  have chX0 := hX.cell (j := 0) (v := .int .i64 0) rfl
  have chX1 := hX.cell (j := 1) (v := .slice none 0 0) rfl
  have chX2 := hX.cell (j := 2) (v := .slice none 0 0) rfl
  have chY0 := hY.cell (j := 0) (v := .int .i64 0) rfl
  have chY1 := hY.cell (j := 1) (v := .slice none 0 0) rfl
  have chY2 := hY.cell (j := 2) (v := .slice none 0 0) rfl
  go_wp2_with fail
  clear hw9 zhY0 yhY0 zhY1 yhY1 zhY2 yhY2 hw10 chS0 chS1 chS2 chS3 chA0 chA1 chM0 chM1 chM2 chM3 chX0 chX1 chX2 chY0 chY1 chY2
  refine (rsame_zero w10).mono ?_
  rintro e w11 ⟨rfl, hD⟩
  replace hS := hS.on hD
  replace hA := hA.on hD
  replace hM := hM.on hD
  replace hX := hX.on hD
  replace hY := hY.on hD
  replace hB := hB.trans (hD.mono hB.size)
  replace hT := hT.below hD
  clear hD
  go_wp2_with fail
  go_ret
  exact ⟨rfl, hB⟩
set_option maxHeartbeats 8000000 in
set_option maxRecDepth 100000 in
theorem signs_none (s msg : D4) (h : Nat) (b : Int) (w : World) (hs : s.ok) (hh2 : h ≤ 2) (hh : h ≤ 4) (hi : b < 0 ∨ ((2 ^ h : Nat) : Int) ≤ b) (hT : TurnsOk w) :
    Calls Tryd.prog 4 #[.agg #[.int .u32 s.d0, .int .u32 s.d1, .int .u32 s.d2, .int .u32 s.d3], .agg #[.int .i64 (h : Int), .int .i64 b], .agg #[.int .u32 msg.d0, .int .u32 msg.d1, .int .u32 msg.d2, .int .u32 msg.d3]] w fun e w' => e = .returned (.bool true) ∧ Below w.heap.size w w' := by
  have e3 : ((h : Int) == (3 : Int)) = false := by simp; omega
  have e4 : ((h : Int) == (4 : Int)) = false := by simp; omega
  have HI := Lib.hid hi
  clear hi
  obtain ⟨w1, hw1⟩ : ∃ w', w.alloc (.cells #[.int .u32 s.d0, .int .u32 s.d1, .int .u32 s.d2, .int .u32 s.d3] 24) = w' := ⟨_, rfl⟩
  have hS : Box 24 w.heap.size [.int .u32 s.d0, .int .u32 s.d1, .int .u32 s.d2, .int .u32 s.d3] w1 := by rw [← hw1]; exact Box.new 24 [.int .u32 s.d0, .int .u32 s.d1, .int .u32 s.d2, .int .u32 s.d3] w
  have hD : Below w.heap.size w w1 := by rw [← hw1]; exact (Below.refl _ _).alloc (Nat.le_refl _) _
  have hB := hD
  replace hT := hT.below hD
  clear hD
  obtain ⟨w2, hw2⟩ : ∃ w', w1.alloc (.cells #[.int .i64 (h : Int), .int .i64 b] 34) = w' := ⟨_, rfl⟩
  have hA : Box 34 w1.heap.size [.int .i64 (h : Int), .int .i64 b] w2 := by rw [← hw2]; exact Box.new 34 [.int .i64 (h : Int), .int .i64 b] w1
  have hD : Below w1.heap.size w1 w2 := by rw [← hw2]; exact (Below.refl _ _).alloc (Nat.le_refl _) _
  replace hS := hS.on hD
  replace hB := hB.trans (hD.mono hB.size)
  replace hT := hT.below hD
  clear hD
  obtain ⟨w3, hw3⟩ : ∃ w', w2.alloc (.cells #[.int .u32 msg.d0, .int .u32 msg.d1, .int .u32 msg.d2, .int .u32 msg.d3] 24) = w' := ⟨_, rfl⟩
  have hM : Box 24 w2.heap.size [.int .u32 msg.d0, .int .u32 msg.d1, .int .u32 msg.d2, .int .u32 msg.d3] w3 := by rw [← hw3]; exact Box.new 24 [.int .u32 msg.d0, .int .u32 msg.d1, .int .u32 msg.d2, .int .u32 msg.d3] w2
  have hD : Below w2.heap.size w2 w3 := by rw [← hw3]; exact (Below.refl _ _).alloc (Nat.le_refl _) _
  replace hS := hS.on hD
  replace hA := hA.on hD
  replace hB := hB.trans (hD.mono hB.size)
  replace hT := hT.below hD
  clear hD
  go_enter Tryd.func4, Tryd.ntmps4
  have chS0 := hS.cell (j := 0) (v := .int .u32 s.d0) rfl
  have chS1 := hS.cell (j := 1) (v := .int .u32 s.d1) rfl
  have chS2 := hS.cell (j := 2) (v := .int .u32 s.d2) rfl
  have chS3 := hS.cell (j := 3) (v := .int .u32 s.d3) rfl
  have chA0 := hA.cell (j := 0) (v := .int .i64 (h : Int)) rfl
  have chA1 := hA.cell (j := 1) (v := .int .i64 b) rfl
  have chM0 := hM.cell (j := 0) (v := .int .u32 msg.d0) rfl
  have chM1 := hM.cell (j := 1) (v := .int .u32 msg.d1) rfl
  have chM2 := hM.cell (j := 2) (v := .int .u32 msg.d2) rfl
  have chM3 := hM.cell (j := 3) (v := .int .u32 msg.d3) rfl
  go_wp2_with fail
  clear hw1 hw2 hw3 chS0 chS1 chS2 chS3 chA0 chA1 chM0 chM1 chM2 chM3
  refine (awake6_any w3 hT).mono ?_
  rintro e w4 ⟨rfl, hD⟩
  replace hS := hS.on hD
  replace hA := hA.on hD
  replace hM := hM.on hD
  replace hB := hB.trans (hD.mono hB.size)
  replace hT := hT.below hD
  clear hD
  have chS0 := hS.cell (j := 0) (v := .int .u32 s.d0) rfl
  have chS1 := hS.cell (j := 1) (v := .int .u32 s.d1) rfl
  have chS2 := hS.cell (j := 2) (v := .int .u32 s.d2) rfl
  have chS3 := hS.cell (j := 3) (v := .int .u32 s.d3) rfl
  have chA0 := hA.cell (j := 0) (v := .int .i64 (h : Int)) rfl
  have chA1 := hA.cell (j := 1) (v := .int .i64 b) rfl
  have chM0 := hM.cell (j := 0) (v := .int .u32 msg.d0) rfl
  have chM1 := hM.cell (j := 1) (v := .int .u32 msg.d1) rfl
  have chM2 := hM.cell (j := 2) (v := .int .u32 msg.d2) rfl
  have chM3 := hM.cell (j := 3) (v := .int .u32 msg.d3) rfl
  go_wp2_with fail
  clear chS0 chS1 chS2 chS3 chA0 chA1 chM0 chM1 chM2 chM3
  refine (csign6_arg s msg h b w4 hs hT hh HI.out).mono ?_
  rintro e w5 ⟨rfl, hD⟩
  replace hS := hS.on hD
  replace hA := hA.on hD
  replace hM := hM.on hD
  replace hB := hB.trans (hD.mono hB.size)
  replace hT := hT.below hD
  clear hD
  obtain ⟨w6, hw6⟩ : ∃ w', w5.alloc (.cells #[.int .i64 0, .slice none 0 0, .slice none 0 0] 38) = w' := ⟨_, rfl⟩
  have hX : Box 38 w5.heap.size [.int .i64 0, .slice none 0 0, .slice none 0 0] w6 := by rw [← hw6]; exact Box.new 38 [.int .i64 0, .slice none 0 0, .slice none 0 0] w5
  have hD : Below w5.heap.size w5 w6 := by rw [← hw6]; exact (Below.refl _ _).alloc (Nat.le_refl _) _
  have zhX0 := hX.cell (j := 0) (v := .int .i64 0) rfl
  have yhX0 := hX.fz 0
  have zhX1 := hX.cell (j := 1) (v := .slice none 0 0) rfl
  have yhX1 := hX.fz 1
  have zhX2 := hX.cell (j := 2) (v := .slice none 0 0) rfl
  have yhX2 := hX.fz 2
  obtain ⟨w7, hw7⟩ : ∃ w', (((w6.setCell ⟨w5.heap.size, 0, none⟩ (.int .i64 0)).setCell ⟨w5.heap.size, 1, none⟩ (.slice none 0 0)).setCell ⟨w5.heap.size, 2, none⟩ (.slice none 0 0)) = w' := ⟨_, rfl⟩
  replace hX : Box 38 w5.heap.size [.int .i64 0, .slice none 0 0, .slice none 0 0] w7 := by rw [← hw7]; exact (((hX.set 0 (.int .i64 0)).set 1 (.slice none 0 0)).set 2 (.slice none 0 0))
  replace hD : Below w5.heap.size w5 w7 := by rw [← hw7]; exact (((hD.setCell (p := ⟨w5.heap.size, 0, none⟩) (Nat.le_refl _) (.int .i64 0)).setCell (p := ⟨w5.heap.size, 1, none⟩) (Nat.le_refl _) (.slice none 0 0)).setCell (p := ⟨w5.heap.size, 2, none⟩) (Nat.le_refl _) (.slice none 0 0))
  replace hS := hS.on hD
  replace hA := hA.on hD
  replace hM := hM.on hD
  replace hB := hB.trans (hD.mono hB.size)
  replace hT := hT.below hD
  clear hD
  have chS0 := hS.cell (j := 0) (v := .int .u32 s.d0) rfl
  have chS1 := hS.cell (j := 1) (v := .int .u32 s.d1) rfl
  have chS2 := hS.cell (j := 2) (v := .int .u32 s.d2) rfl
  have chS3 := hS.cell (j := 3) (v := .int .u32 s.d3) rfl
  have chA0 := hA.cell (j := 0) (v := .int .i64 (h : Int)) rfl
  have chA1 := hA.cell (j := 1) (v := .int .i64 b) rfl
  have chM0 := hM.cell (j := 0) (v := .int .u32 msg.d0) rfl
  have chM1 := hM.cell (j := 1) (v := .int .u32 msg.d1) rfl
  have chM2 := hM.cell (j := 2) (v := .int .u32 msg.d2) rfl
  have chM3 := hM.cell (j := 3) (v := .int .u32 msg.d3) rfl
  have chX0 := hX.cell (j := 0) (v := .int .i64 0) rfl
  have chX1 := hX.cell (j := 1) (v := .slice none 0 0) rfl
  have chX2 := hX.cell (j := 2) (v := .slice none 0 0) rfl
  go_wp2_with fail
  clear hw6 zhX0 yhX0 zhX1 yhX1 zhX2 yhX2 hw7 chS0 chS1 chS2 chS3 chA0 chA1 chM0 chM1 chM2 chM3 chX0 chX1 chX2
  refine (rsign6_arg s msg h b w7 hs hh HI.out).mono ?_
  rintro e w8 ⟨rfl, hD⟩
  replace hS := hS.on hD
  replace hA := hA.on hD
  replace hM := hM.on hD
  replace hX := hX.on hD
  replace hB := hB.trans (hD.mono hB.size)
  replace hT := hT.below hD
  clear hD
  obtain ⟨w9, hw9⟩ : ∃ w', w8.alloc (.cells #[.int .i64 0, .slice none 0 0, .slice none 0 0] 38) = w' := ⟨_, rfl⟩
  have hY : Box 38 w8.heap.size [.int .i64 0, .slice none 0 0, .slice none 0 0] w9 := by rw [← hw9]; exact Box.new 38 [.int .i64 0, .slice none 0 0, .slice none 0 0] w8
  have hD : Below w8.heap.size w8 w9 := by rw [← hw9]; exact (Below.refl _ _).alloc (Nat.le_refl _) _
  have zhY0 := hY.cell (j := 0) (v := .int .i64 0) rfl
  have yhY0 := hY.fz 0
  have zhY1 := hY.cell (j := 1) (v := .slice none 0 0) rfl
  have yhY1 := hY.fz 1
  have zhY2 := hY.cell (j := 2) (v := .slice none 0 0) rfl
  have yhY2 := hY.fz 2
  obtain ⟨w10, hw10⟩ : ∃ w', (((w9.setCell ⟨w8.heap.size, 0, none⟩ (.int .i64 0)).setCell ⟨w8.heap.size, 1, none⟩ (.slice none 0 0)).setCell ⟨w8.heap.size, 2, none⟩ (.slice none 0 0)) = w' := ⟨_, rfl⟩
  replace hY : Box 38 w8.heap.size [.int .i64 0, .slice none 0 0, .slice none 0 0] w10 := by rw [← hw10]; exact (((hY.set 0 (.int .i64 0)).set 1 (.slice none 0 0)).set 2 (.slice none 0 0))
  replace hD : Below w8.heap.size w8 w10 := by rw [← hw10]; exact (((hD.setCell (p := ⟨w8.heap.size, 0, none⟩) (Nat.le_refl _) (.int .i64 0)).setCell (p := ⟨w8.heap.size, 1, none⟩) (Nat.le_refl _) (.slice none 0 0)).setCell (p := ⟨w8.heap.size, 2, none⟩) (Nat.le_refl _) (.slice none 0 0))
  replace hS := hS.on hD
  replace hA := hA.on hD
  replace hM := hM.on hD
  replace hX := hX.on hD
  replace hB := hB.trans (hD.mono hB.size)
  replace hT := hT.below hD
  clear hD
  have chS0 := hS.cell (j := 0) (v := .int .u32 s.d0) rfl
  have chS1 := hS.cell (j := 1) (v := .int .u32 s.d1) rfl
  have chS2 := hS.cell (j := 2) (v := .int .u32 s.d2) rfl
  have chS3 := hS.cell (j := 3) (v := .int .u32 s.d3) rfl
  have chA0 := hA.cell (j := 0) (v := .int .i64 (h : Int)) rfl
  have chA1 := hA.cell (j := 1) (v := .int .i64 b) rfl
  have chM0 := hM.cell (j := 0) (v := .int .u32 msg.d0) rfl
  have chM1 := hM.cell (j := 1) (v := .int .u32 msg.d1) rfl
  have chM2 := hM.cell (j := 2) (v := .int .u32 msg.d2) rfl
  have chM3 := hM.cell (j := 3) (v := .int .u32 msg.d3) rfl
  have chX0 := hX.cell (j := 0) (v := .int .i64 0) rfl
  have chX1 := hX.cell (j := 1) (v := .slice none 0 0) rfl
  have chX2 := hX.cell (j := 2) (v := .slice none 0 0) rfl
  have chY0 := hY.cell (j := 0) (v := .int .i64 0) rfl
  have chY1 := hY.cell (j := 1) (v := .slice none 0 0) rfl
  have chY2 := hY.cell (j := 2) (v := .slice none 0 0) rfl
  go_wp2_with fail
  clear hw9 zhY0 yhY0 zhY1 yhY1 zhY2 yhY2 hw10 chS0 chS1 chS2 chS3 chA0 chA1 chM0 chM1 chM2 chM3 chX0 chX1 chX2 chY0 chY1 chY2
  refine (rsame_zero w10).mono ?_
  rintro e w11 ⟨rfl, hD⟩
  replace hS := hS.on hD
  replace hA := hA.on hD
  replace hM := hM.on hD
  replace hX := hX.on hD
  replace hY := hY.on hD
  replace hB := hB.trans (hD.mono hB.size)
  replace hT := hT.below hD
  clear hD
  go_wp2_with fail
  go_ret
  exact ⟨rfl, hB⟩
theorem wayD_ok : ∀ (n : Nat) (l : List D4) (i : Nat), l.length = n → allD4 l → allD4 (wayD l i) := by
  intro n
  induction n using Nat.strongRecOn with
  | _ n ih =>
    intro l i hn h
    by_cases q : l.length < 2
    · rw [wayD, way_few _ _ _ _ q]; intro d hd; cases hd
    · have h2 : 2 ≤ l.length := by omega
      have hl := half_lt h2
      have hp := half_pos l.length
      by_cases k : i < half l.length
      · rw [wayD, way_left _ _ l i h2 k]
        intro d hd
        rcases List.mem_append.mp hd with q | q
        · exact ih (half l.length) (by omega) (l.take (half l.length)) i (by rw [List.length_take]; omega) (h.take _) d q
        · simp at q; subst q; exact rootD_ok _ _ rfl (h.drop _)
      · rw [wayD, way_right _ _ l i h2 k]
        intro d hd
        rcases List.mem_append.mp hd with q | q
        · exact ih (l.length - half l.length) (by omega) (l.drop (half l.length)) _ (by rw [List.length_drop]) (h.drop _) d q
        · simp at q; subst q; exact rootD_ok _ _ rfl (h.take _)
theorem pathK_ok (s : D4) (h i : Nat) (_hi : i < 2 ^ h) : allD4 (pathK s h i) := wayD_ok _ (keysL s h) i rfl (keysL_ok s h)
set_option maxHeartbeats 8000000 in
set_option maxRecDepth 100000 in
theorem signs_good (s msg : D4) (h i : Nat) (w : World) (hs : s.ok) (hmo : msg.ok) (hh2 : h ≤ 2) (hh : h ≤ 4) (hi : i < 2 ^ h) (hT : TurnsOk w) :
    Calls Tryd.prog 4 #[.agg #[.int .u32 s.d0, .int .u32 s.d1, .int .u32 s.d2, .int .u32 s.d3], .agg #[.int .i64 (h : Int), .int .i64 (i : Int)], .agg #[.int .u32 msg.d0, .int .u32 msg.d1, .int .u32 msg.d2, .int .u32 msg.d3]] w fun e w' => e = .returned (.bool true) ∧ Below w.heap.size w w' := by
  have e3 : ((h : Int) == (3 : Int)) = false := by simp; omega
  have e4 : ((h : Int) == (4 : Int)) = false := by simp; omega
  obtain ⟨v, hv⟩ : ∃ v, pubK s h = v := ⟨_, rfl⟩
  obtain ⟨L, hL⟩ : ∃ l, signL (seedK s i) msg = l := ⟨_, rfl⟩
  obtain ⟨Q, hQ⟩ : ∃ l, pathK s h i = l := ⟨_, rfl⟩
  obtain ⟨N, hN⟩ : ∃ N, Q.length = N := ⟨_, rfl⟩
  have HLO := Lib.hid (show allD4 L by rw [← hL]; exact signL_ok msg (seedK_ok _ _))
  have HLN := Lib.hid (show 35 = L.length by rw [← hL]; exact (signL_len _ _).symm)
  have HQO := Lib.hid (show allD4 Q by rw [← hQ]; exact pathK_ok s h i hi)
  have HC := Lib.hid (show check6 v msg (i : Int) L Q = true by rw [← hv, ← hL, ← hQ]; exact check6_sign s msg h i hh hi)
  have HV := Lib.hid hv
  have HL := Lib.hid hL
  have HQ := Lib.hid hQ
  have HN := Lib.hid hN
  have HI := Lib.hid hi
  clear hv hL hQ hN hi
  obtain ⟨w1, hw1⟩ : ∃ w', w.alloc (.cells #[.int .u32 s.d0, .int .u32 s.d1, .int .u32 s.d2, .int .u32 s.d3] 24) = w' := ⟨_, rfl⟩
  have hS : Box 24 w.heap.size [.int .u32 s.d0, .int .u32 s.d1, .int .u32 s.d2, .int .u32 s.d3] w1 := by rw [← hw1]; exact Box.new 24 [.int .u32 s.d0, .int .u32 s.d1, .int .u32 s.d2, .int .u32 s.d3] w
  have hD : Below w.heap.size w w1 := by rw [← hw1]; exact (Below.refl _ _).alloc (Nat.le_refl _) _
  have hB := hD
  replace hT := hT.below hD
  clear hD
  obtain ⟨w2, hw2⟩ : ∃ w', w1.alloc (.cells #[.int .i64 (h : Int), .int .i64 (i : Int)] 34) = w' := ⟨_, rfl⟩
  have hA : Box 34 w1.heap.size [.int .i64 (h : Int), .int .i64 (i : Int)] w2 := by rw [← hw2]; exact Box.new 34 [.int .i64 (h : Int), .int .i64 (i : Int)] w1
  have hD : Below w1.heap.size w1 w2 := by rw [← hw2]; exact (Below.refl _ _).alloc (Nat.le_refl _) _
  replace hS := hS.on hD
  replace hB := hB.trans (hD.mono hB.size)
  replace hT := hT.below hD
  clear hD
  obtain ⟨w3, hw3⟩ : ∃ w', w2.alloc (.cells #[.int .u32 msg.d0, .int .u32 msg.d1, .int .u32 msg.d2, .int .u32 msg.d3] 24) = w' := ⟨_, rfl⟩
  have hM : Box 24 w2.heap.size [.int .u32 msg.d0, .int .u32 msg.d1, .int .u32 msg.d2, .int .u32 msg.d3] w3 := by rw [← hw3]; exact Box.new 24 [.int .u32 msg.d0, .int .u32 msg.d1, .int .u32 msg.d2, .int .u32 msg.d3] w2
  have hD : Below w2.heap.size w2 w3 := by rw [← hw3]; exact (Below.refl _ _).alloc (Nat.le_refl _) _
  replace hS := hS.on hD
  replace hA := hA.on hD
  replace hB := hB.trans (hD.mono hB.size)
  replace hT := hT.below hD
  clear hD
  go_enter Tryd.func4, Tryd.ntmps4
  have chS0 := hS.cell (j := 0) (v := .int .u32 s.d0) rfl
  have chS1 := hS.cell (j := 1) (v := .int .u32 s.d1) rfl
  have chS2 := hS.cell (j := 2) (v := .int .u32 s.d2) rfl
  have chS3 := hS.cell (j := 3) (v := .int .u32 s.d3) rfl
  have chA0 := hA.cell (j := 0) (v := .int .i64 (h : Int)) rfl
  have chA1 := hA.cell (j := 1) (v := .int .i64 (i : Int)) rfl
  have chM0 := hM.cell (j := 0) (v := .int .u32 msg.d0) rfl
  have chM1 := hM.cell (j := 1) (v := .int .u32 msg.d1) rfl
  have chM2 := hM.cell (j := 2) (v := .int .u32 msg.d2) rfl
  have chM3 := hM.cell (j := 3) (v := .int .u32 msg.d3) rfl
  go_wp2_with fail
  clear hw1 hw2 hw3 chS0 chS1 chS2 chS3 chA0 chA1 chM0 chM1 chM2 chM3
  refine (awake6_any w3 hT).mono ?_
  rintro e w4 ⟨rfl, hD⟩
  replace hS := hS.on hD
  replace hA := hA.on hD
  replace hM := hM.on hD
  replace hB := hB.trans (hD.mono hB.size)
  replace hT := hT.below hD
  clear hD
  have chS0 := hS.cell (j := 0) (v := .int .u32 s.d0) rfl
  have chS1 := hS.cell (j := 1) (v := .int .u32 s.d1) rfl
  have chS2 := hS.cell (j := 2) (v := .int .u32 s.d2) rfl
  have chS3 := hS.cell (j := 3) (v := .int .u32 s.d3) rfl
  have chA0 := hA.cell (j := 0) (v := .int .i64 (h : Int)) rfl
  have chA1 := hA.cell (j := 1) (v := .int .i64 (i : Int)) rfl
  have chM0 := hM.cell (j := 0) (v := .int .u32 msg.d0) rfl
  have chM1 := hM.cell (j := 1) (v := .int .u32 msg.d1) rfl
  have chM2 := hM.cell (j := 2) (v := .int .u32 msg.d2) rfl
  have chM3 := hM.cell (j := 3) (v := .int .u32 msg.d3) rfl
  go_wp2_with fail
  clear chS0 chS1 chS2 chS3 chA0 chA1 chM0 chM1 chM2 chM3
  refine (csign6_yes s msg h i L Q w4 hs hT hmo hh HI.out HL.out HQ.out N HN.out).mono ?_
  rintro e w5 ⟨g, p1, c1, rfl, hgB, hl1, hO1, hD⟩
  replace hS := hS.on hD
  replace hA := hA.on hD
  replace hM := hM.on hD
  replace hB := hB.trans (hD.mono hB.size)
  replace hT := hT.below hD
  clear hD
  have hq1 := hO1.use.2.1
  have hc1 := hO1.use.2.2.1
  have hm1 := hO1.use.2.2.2
  clear hO1 hgB
  obtain ⟨w6, hw6⟩ : ∃ w', w5.alloc (.cells #[.int .i64 (i : Int), .slice (some ⟨g, 0, none⟩) 35 35, .slice p1 N c1] 38) = w' := ⟨_, rfl⟩
  have hX : Box 38 w5.heap.size [.int .i64 (i : Int), .slice (some ⟨g, 0, none⟩) 35 35, .slice p1 N c1] w6 := by rw [← hw6]; exact Box.new 38 [.int .i64 (i : Int), .slice (some ⟨g, 0, none⟩) 35 35, .slice p1 N c1] w5
  have hD : Below w5.heap.size w5 w6 := by rw [← hw6]; exact (Below.refl _ _).alloc (Nat.le_refl _) _
  replace hS := hS.on hD
  replace hA := hA.on hD
  replace hM := hM.on hD
  replace hl1 := hl1.on hD
  replace hq1 := hq1.on hD
  replace hB := hB.trans (hD.mono hB.size)
  replace hT := hT.below hD
  clear hD
  have chS0 := hS.cell (j := 0) (v := .int .u32 s.d0) rfl
  have chS1 := hS.cell (j := 1) (v := .int .u32 s.d1) rfl
  have chS2 := hS.cell (j := 2) (v := .int .u32 s.d2) rfl
  have chS3 := hS.cell (j := 3) (v := .int .u32 s.d3) rfl
  have chA0 := hA.cell (j := 0) (v := .int .i64 (h : Int)) rfl
  have chA1 := hA.cell (j := 1) (v := .int .i64 (i : Int)) rfl
  have chM0 := hM.cell (j := 0) (v := .int .u32 msg.d0) rfl
  have chM1 := hM.cell (j := 1) (v := .int .u32 msg.d1) rfl
  have chM2 := hM.cell (j := 2) (v := .int .u32 msg.d2) rfl
  have chM3 := hM.cell (j := 3) (v := .int .u32 msg.d3) rfl
  have chX0 := hX.cell (j := 0) (v := .int .i64 (i : Int)) rfl
  have chX1 := hX.cell (j := 1) (v := .slice (some ⟨g, 0, none⟩) 35 35) rfl
  have chX2 := hX.cell (j := 2) (v := .slice p1 N c1) rfl
  go_wp2_with fail
  clear hw6 chS0 chS1 chS2 chS3 chA0 chA1 chM0 chM1 chM2 chM3 chX0 chX1 chX2
  refine (rsign6_yes s msg h i L Q w6 hs hmo hh HI.out HL.out HQ.out N HN.out).mono ?_
  rintro e w7 ⟨p2, c2, p3, c3, rfl, hO2, hO3, hD⟩
  replace hS := hS.on hD
  replace hA := hA.on hD
  replace hM := hM.on hD
  replace hX := hX.on hD
  replace hl1 := hl1.on hD
  replace hq1 := hq1.on hD
  replace hB := hB.trans (hD.mono hB.size)
  replace hT := hT.below hD
  clear hD
  have hq2 := hO2.use.2.1
  have hc2 := hO2.use.2.2.1
  have hm2 := hO2.use.2.2.2
  have hq3 := hO3.use.2.1
  have hc3 := hO3.use.2.2.1
  have hm3 := hO3.use.2.2.2
  clear hO2 hO3
  obtain ⟨w8, hw8⟩ : ∃ w', w7.alloc (.cells #[.int .i64 (i : Int), .slice p2 35 c2, .slice p3 N c3] 38) = w' := ⟨_, rfl⟩
  have hY : Box 38 w7.heap.size [.int .i64 (i : Int), .slice p2 35 c2, .slice p3 N c3] w8 := by rw [← hw8]; exact Box.new 38 [.int .i64 (i : Int), .slice p2 35 c2, .slice p3 N c3] w7
  have hD : Below w7.heap.size w7 w8 := by rw [← hw8]; exact (Below.refl _ _).alloc (Nat.le_refl _) _
  replace hS := hS.on hD
  replace hA := hA.on hD
  replace hM := hM.on hD
  replace hX := hX.on hD
  replace hl1 := hl1.on hD
  replace hq1 := hq1.on hD
  replace hq2 := hq2.on hD
  replace hq3 := hq3.on hD
  replace hB := hB.trans (hD.mono hB.size)
  replace hT := hT.below hD
  clear hD
  have chS0 := hS.cell (j := 0) (v := .int .u32 s.d0) rfl
  have chS1 := hS.cell (j := 1) (v := .int .u32 s.d1) rfl
  have chS2 := hS.cell (j := 2) (v := .int .u32 s.d2) rfl
  have chS3 := hS.cell (j := 3) (v := .int .u32 s.d3) rfl
  have chA0 := hA.cell (j := 0) (v := .int .i64 (h : Int)) rfl
  have chA1 := hA.cell (j := 1) (v := .int .i64 (i : Int)) rfl
  have chM0 := hM.cell (j := 0) (v := .int .u32 msg.d0) rfl
  have chM1 := hM.cell (j := 1) (v := .int .u32 msg.d1) rfl
  have chM2 := hM.cell (j := 2) (v := .int .u32 msg.d2) rfl
  have chM3 := hM.cell (j := 3) (v := .int .u32 msg.d3) rfl
  have chX0 := hX.cell (j := 0) (v := .int .i64 (i : Int)) rfl
  have chX1 := hX.cell (j := 1) (v := .slice (some ⟨g, 0, none⟩) 35 35) rfl
  have chX2 := hX.cell (j := 2) (v := .slice p1 N c1) rfl
  have chY0 := hY.cell (j := 0) (v := .int .i64 (i : Int)) rfl
  have chY1 := hY.cell (j := 1) (v := .slice p2 35 c2) rfl
  have chY2 := hY.cell (j := 2) (v := .slice p3 N c3) rfl
  go_wp2_with fail
  clear hw8 chS0 chS1 chS2 chS3 chA0 chA1 chM0 chM1 chM2 chM3 chX0 chX1 chX2 chY0 chY1 chY2
  refine (rsame_yes (i : Int) L Q (some ⟨g, 0, none⟩) p1 p2 p3 35 35 N c1 c2 c3 w8 HLN.out HN.out.symm (rdS_some hl1) hq1 hq2 hq3 (Nat.le_refl _) (by unfold maxLen; omega) hc1 hm1 hc2 hm2 hc3 hm3).mono ?_
  rintro e w9 ⟨rfl, hD⟩
  replace hS := hS.on hD
  replace hA := hA.on hD
  replace hM := hM.on hD
  replace hX := hX.on hD
  replace hY := hY.on hD
  replace hl1 := hl1.on hD
  replace hq1 := hq1.on hD
  replace hq2 := hq2.on hD
  replace hq3 := hq3.on hD
  replace hB := hB.trans (hD.mono hB.size)
  replace hT := hT.below hD
  clear hD
  clear hY
  clear hq2 hq3 hc2 hc3 hm2 hm3
  have chS0 := hS.cell (j := 0) (v := .int .u32 s.d0) rfl
  have chS1 := hS.cell (j := 1) (v := .int .u32 s.d1) rfl
  have chS2 := hS.cell (j := 2) (v := .int .u32 s.d2) rfl
  have chS3 := hS.cell (j := 3) (v := .int .u32 s.d3) rfl
  have chA0 := hA.cell (j := 0) (v := .int .i64 (h : Int)) rfl
  have chA1 := hA.cell (j := 1) (v := .int .i64 (i : Int)) rfl
  go_wp2_with fail
  clear chS0 chS1 chS2 chS3 chA0 chA1
  refine (cpub_nmy s v h w9 hs hh hT HV.out).mono ?_
  rintro e w10 ⟨rfl, hD⟩
  replace hS := hS.on hD
  replace hA := hA.on hD
  replace hM := hM.on hD
  replace hX := hX.on hD
  replace hl1 := hl1.on hD
  replace hq1 := hq1.on hD
  replace hB := hB.trans (hD.mono hB.size)
  replace hT := hT.below hD
  clear hD
  obtain ⟨w11, hw11⟩ : ∃ w', w10.alloc (.cells #[.int .u32 v.d0, .int .u32 v.d1, .int .u32 v.d2, .int .u32 v.d3] 24) = w' := ⟨_, rfl⟩
  have hP : Box 24 w10.heap.size [.int .u32 v.d0, .int .u32 v.d1, .int .u32 v.d2, .int .u32 v.d3] w11 := by rw [← hw11]; exact Box.new 24 [.int .u32 v.d0, .int .u32 v.d1, .int .u32 v.d2, .int .u32 v.d3] w10
  have hD : Below w10.heap.size w10 w11 := by rw [← hw11]; exact (Below.refl _ _).alloc (Nat.le_refl _) _
  replace hS := hS.on hD
  replace hA := hA.on hD
  replace hM := hM.on hD
  replace hX := hX.on hD
  replace hl1 := hl1.on hD
  replace hq1 := hq1.on hD
  replace hB := hB.trans (hD.mono hB.size)
  replace hT := hT.below hD
  clear hD
  have chS0 := hS.cell (j := 0) (v := .int .u32 s.d0) rfl
  have chS1 := hS.cell (j := 1) (v := .int .u32 s.d1) rfl
  have chS2 := hS.cell (j := 2) (v := .int .u32 s.d2) rfl
  have chS3 := hS.cell (j := 3) (v := .int .u32 s.d3) rfl
  have chA0 := hA.cell (j := 0) (v := .int .i64 (h : Int)) rfl
  have chA1 := hA.cell (j := 1) (v := .int .i64 (i : Int)) rfl
  have chM0 := hM.cell (j := 0) (v := .int .u32 msg.d0) rfl
  have chM1 := hM.cell (j := 1) (v := .int .u32 msg.d1) rfl
  have chM2 := hM.cell (j := 2) (v := .int .u32 msg.d2) rfl
  have chM3 := hM.cell (j := 3) (v := .int .u32 msg.d3) rfl
  have chX0 := hX.cell (j := 0) (v := .int .i64 (i : Int)) rfl
  have chX1 := hX.cell (j := 1) (v := .slice (some ⟨g, 0, none⟩) 35 35) rfl
  have chX2 := hX.cell (j := 2) (v := .slice p1 N c1) rfl
  have chP0 := hP.cell (j := 0) (v := .int .u32 v.d0) rfl
  have chP1 := hP.cell (j := 1) (v := .int .u32 v.d1) rfl
  have chP2 := hP.cell (j := 2) (v := .int .u32 v.d2) rfl
  have chP3 := hP.cell (j := 3) (v := .int .u32 v.d3) rfl
  go_wp2_with fail
  clear hw11 chS0 chS1 chS2 chS3 chA0 chA1 chM0 chM1 chM2 chM3 chX0 chX1 chX2 chP0 chP1 chP2 chP3
  refine (ccheck6_any v msg (i : Int) L Q true (some ⟨g, 0, none⟩) p1 35 35 N c1 w11 hmo HLO.out HQO.out HLN.out HN.out.symm (rdS_some hl1) hq1 (Nat.le_of_eq HLN.out.symm) (by unfold maxLen; omega) hc1 hm1 hT HC.out).mono ?_
  rintro e w12 ⟨rfl, hD⟩
  replace hS := hS.on hD
  replace hA := hA.on hD
  replace hM := hM.on hD
  replace hX := hX.on hD
  replace hP := hP.on hD
  replace hl1 := hl1.on hD
  replace hq1 := hq1.on hD
  replace hB := hB.trans (hD.mono hB.size)
  replace hT := hT.below hD
  clear hD
  go_wp2_with fail
  go_ret
  exact ⟨rfl, hB⟩
theorem signs_walk (s msg : D4) (a b : Int) (w : World) (hs : s.ok) (hmo : msg.ok) (hT : TurnsOk w) :
    Calls Tryd.prog 4 #[.agg #[.int .u32 s.d0, .int .u32 s.d1, .int .u32 s.d2, .int .u32 s.d3], .agg #[.int .i64 a, .int .i64 b], .agg #[.int .u32 msg.d0, .int .u32 msg.d1, .int .u32 msg.d2, .int .u32 msg.d3]] w fun e w' => e = .returned (.bool true) ∧ Below w.heap.size w w' := by
  by_cases h1 : a = 3 ∨ a = 4
  · exact signs_mid s msg a b w h1 hT
  · by_cases h2 : a < 0 ∨ 4 < a
    · exact signs_high s msg a b w h2 hT
    · obtain ⟨n, rfl⟩ := Int.eq_ofNat_of_zero_le (show 0 ≤ a by omega)
      by_cases h3 : b < 0 ∨ ((2 ^ n : Nat) : Int) ≤ b
      · exact signs_none s msg n b w hs (by omega) (by omega) h3 hT
      · obtain ⟨k, rfl⟩ := Int.eq_ofNat_of_zero_le (show 0 ≤ b by omega)
        exact signs_good s msg n k w hs hmo (by omega) (by omega) (by omega) hT
end Go.Proofs.YtdphhpmkcalahaaDoor
