/-
  KeysUses: the walks (written by gen_law64.py).
-/
import Derived.Test.YtdphhpmkcalahaaDoorKyQ
namespace Go.Proofs.YtdphhpmkcalahaaDoor
open Go.RowKit
set_option maxHeartbeats 8000000 in
set_option maxRecDepth 100000 in
theorem uses_good (s msg : D4) (h i : Nat) (w : World) (hs : s.ok) (hmo : msg.ok) (hh2 : h ≤ 2) (hh : h ≤ 4) (hi : i < 2 ^ h) (hi16 : i < 16) (hT : TurnsOk w) :
    Calls Tryd.prog 6 #[.agg #[.int .u32 s.d0, .int .u32 s.d1, .int .u32 s.d2, .int .u32 s.d3, .int .i64 (h : Int), .int .i64 (i : Int)], .agg #[.int .u32 msg.d0, .int .u32 msg.d1, .int .u32 msg.d2, .int .u32 msg.d3]] w fun e w' => e = .returned (.bool true) ∧ Below w.heap.size w w' := by
  have e3 : ((h : Int) == (3 : Int)) = false := by simp; omega
  have e4 : ((h : Int) == (4 : Int)) = false := by simp; omega
  obtain ⟨v, hv⟩ : ∃ v, pubK s h = v := ⟨_, rfl⟩
  obtain ⟨L, hL⟩ : ∃ l, signL (seedK s i) msg = l := ⟨_, rfl⟩
  obtain ⟨Q, hQ⟩ : ∃ l, pathK s h i = l := ⟨_, rfl⟩
  obtain ⟨N, hN⟩ : ∃ N, Q.length = N := ⟨_, rfl⟩
  have HLO := Lib.hid (show allD4 L by rw [← hL]; exact signL_ok msg (seedK_ok _ _))
  have HLN := Lib.hid (show 35 = L.length by rw [← hL]; exact (signL_len _ _).symm)
  have HQO := Lib.hid (show allD4 Q by rw [← hQ]; exact pathK_ok s h i hi)
  have HC := Lib.hid (show check6 v msg (i : Int) L Q = true by rw [← hv, ← hL, ← hQ]; exact check6_sign s msg h i hh hi)
  have HV := Lib.hid hv
  have HL := Lib.hid hL
  have HQ := Lib.hid hQ
  have HN := Lib.hid hN
  have HI := Lib.hid hi
  clear hv hL hQ hN hi
  obtain ⟨w1, hw1⟩ : ∃ w', w.alloc (.cells #[.int .u32 s.d0, .int .u32 s.d1, .int .u32 s.d2, .int .u32 s.d3, .int .i64 (h : Int), .int .i64 (i : Int)] 30) = w' := ⟨_, rfl⟩
  have hS : Box 30 w.heap.size [.int .u32 s.d0, .int .u32 s.d1, .int .u32 s.d2, .int .u32 s.d3, .int .i64 (h : Int), .int .i64 (i : Int)] w1 := by rw [← hw1]; exact Box.new 30 [.int .u32 s.d0, .int .u32 s.d1, .int .u32 s.d2, .int .u32 s.d3, .int .i64 (h : Int), .int .i64 (i : Int)] w
  have hD : Below w.heap.size w w1 := by rw [← hw1]; exact (Below.refl _ _).alloc (Nat.le_refl _) _
  have hB := hD
  replace hT := hT.below hD
  clear hD
  obtain ⟨w2, hw2⟩ : ∃ w', w1.alloc (.cells #[.int .u32 msg.d0, .int .u32 msg.d1, .int .u32 msg.d2, .int .u32 msg.d3] 24) = w' := ⟨_, rfl⟩
  have hM : Box 24 w1.heap.size [.int .u32 msg.d0, .int .u32 msg.d1, .int .u32 msg.d2, .int .u32 msg.d3] w2 := by rw [← hw2]; exact Box.new 24 [.int .u32 msg.d0, .int .u32 msg.d1, .int .u32 msg.d2, .int .u32 msg.d3] w1
  have hD : Below w1.heap.size w1 w2 := by rw [← hw2]; exact (Below.refl _ _).alloc (Nat.le_refl _) _
  replace hS := hS.on hD
  replace hB := hB.trans (hD.mono hB.size)
  replace hT := hT.below hD
  clear hD
  go_enter Tryd.func6, Tryd.ntmps6
  have chS0 := hS.cell (j := 0) (v := .int .u32 s.d0) rfl
  have chS1 := hS.cell (j := 1) (v := .int .u32 s.d1) rfl
  have chS2 := hS.cell (j := 2) (v := .int .u32 s.d2) rfl
  have chS3 := hS.cell (j := 3) (v := .int .u32 s.d3) rfl
  have chS4 := hS.cell (j := 4) (v := .int .i64 (h : Int)) rfl
  have chS5 := hS.cell (j := 5) (v := .int .i64 (i : Int)) rfl
  have chM0 := hM.cell (j := 0) (v := .int .u32 msg.d0) rfl
  have chM1 := hM.cell (j := 1) (v := .int .u32 msg.d1) rfl
  have chM2 := hM.cell (j := 2) (v := .int .u32 msg.d2) rfl
  have chM3 := hM.cell (j := 3) (v := .int .u32 msg.d3) rfl
  go_wp2_with fail
  clear hw1 hw2 chS0 chS1 chS2 chS3 chS4 chS5 chM0 chM1 chM2 chM3
  refine (awake6_any w2 hT).mono ?_
  rintro e w3 ⟨rfl, hD⟩
  replace hS := hS.on hD
  replace hM := hM.on hD
  replace hB := hB.trans (hD.mono hB.size)
  replace hT := hT.below hD
  clear hD
  have chS0 := hS.cell (j := 0) (v := .int .u32 s.d0) rfl
  have chS1 := hS.cell (j := 1) (v := .int .u32 s.d1) rfl
  have chS2 := hS.cell (j := 2) (v := .int .u32 s.d2) rfl
  have chS3 := hS.cell (j := 3) (v := .int .u32 s.d3) rfl
  have chS4 := hS.cell (j := 4) (v := .int .i64 (h : Int)) rfl
  have chS5 := hS.cell (j := 5) (v := .int .i64 (i : Int)) rfl
  have chM0 := hM.cell (j := 0) (v := .int .u32 msg.d0) rfl
  have chM1 := hM.cell (j := 1) (v := .int .u32 msg.d1) rfl
  have chM2 := hM.cell (j := 2) (v := .int .u32 msg.d2) rfl
  have chM3 := hM.cell (j := 3) (v := .int .u32 msg.d3) rfl
  go_wp2_with fail
  clear chS0 chS1 chS2 chS3 chS4 chS5 chM0 chM1 chM2 chM3
  refine (cuse6_yes s msg h i L Q w3 hs hT hmo hh HI.out HL.out HQ.out N HN.out).mono ?_
  rintro e w4 ⟨g, p1, c1, rfl, hgB, hl1, hO1, hD⟩
  replace hS := hS.on hD
  replace hM := hM.on hD
  replace hB := hB.trans (hD.mono hB.size)
  replace hT := hT.below hD
  clear hD
  have hq1 := hO1.use.2.1
  have hc1 := hO1.use.2.2.1
  have hm1 := hO1.use.2.2.2
  clear hO1 hgB
  obtain ⟨w5, hw5⟩ : ∃ w', w4.alloc (.cells #[.int .u32 s.d0, .int .u32 s.d1, .int .u32 s.d2, .int .u32 s.d3, .int .i64 (h : Int), .int .i64 ((i : Int) + 1)] 30) = w' := ⟨_, rfl⟩
  obtain ⟨w6, hw6⟩ : ∃ w', (w4.alloc (.cells #[.int .u32 s.d0, .int .u32 s.d1, .int .u32 s.d2, .int .u32 s.d3, .int .i64 (h : Int), .int .i64 ((i : Int) + 1)] 30)).alloc (.cells #[.int .i64 (i : Int), .slice (some ⟨g, 0, none⟩) 35 35, .slice p1 N c1] 38) = w' := ⟨_, rfl⟩
  have hsz1 : w5.heap.size = w4.heap.size + 1 := by rw [← hw5]; simp
  have hU : Box 30 (w4.heap.size) [.int .u32 s.d0, .int .u32 s.d1, .int .u32 s.d2, .int .u32 s.d3, .int .i64 (h : Int), .int .i64 ((i : Int) + 1)] w6 := by rw [← hw6]; exact (Box.new 30 [.int .u32 s.d0, .int .u32 s.d1, .int .u32 s.d2, .int .u32 s.d3, .int .i64 (h : Int), .int .i64 ((i : Int) + 1)] w4).al _
  have hX : Box 38 (w4.heap.size + 1) [.int .i64 (i : Int), .slice (some ⟨g, 0, none⟩) 35 35, .slice p1 N c1] w6 := by rw [← hw6, ← hsz1, hw5]; exact Box.new 38 [.int .i64 (i : Int), .slice (some ⟨g, 0, none⟩) 35 35, .slice p1 N c1] w5
  have hD : Below w4.heap.size w4 w6 := by rw [← hw6]; exact ((Below.refl _ _).alloc (Nat.le_refl _) _).alloc (by simp) _
  clear hsz1 hw5
  replace hS := hS.on hD
  replace hM := hM.on hD
  replace hl1 := hl1.on hD
  replace hq1 := hq1.on hD
  replace hB := hB.trans (hD.mono hB.size)
  replace hT := hT.below hD
  clear hD
  have chS0 := hS.cell (j := 0) (v := .int .u32 s.d0) rfl
  have chS1 := hS.cell (j := 1) (v := .int .u32 s.d1) rfl
  have chS2 := hS.cell (j := 2) (v := .int .u32 s.d2) rfl
  have chS3 := hS.cell (j := 3) (v := .int .u32 s.d3) rfl
  have chS4 := hS.cell (j := 4) (v := .int .i64 (h : Int)) rfl
  have chS5 := hS.cell (j := 5) (v := .int .i64 (i : Int)) rfl
  have chM0 := hM.cell (j := 0) (v := .int .u32 msg.d0) rfl
  have chM1 := hM.cell (j := 1) (v := .int .u32 msg.d1) rfl
  have chM2 := hM.cell (j := 2) (v := .int .u32 msg.d2) rfl
  have chM3 := hM.cell (j := 3) (v := .int .u32 msg.d3) rfl
  go_wp2_with fail
  clear hw6 chS0 chS1 chS2 chS3 chS4 chS5 chM0 chM1 chM2 chM3
  refine (ruse6_yes s msg h i L Q w6 hs hmo hh HI.out HL.out HQ.out N HN.out).mono ?_
  rintro e w7 ⟨p2, c2, p3, c3, rfl, hO2, hO3, hD⟩
  replace hS := hS.on hD
  replace hM := hM.on hD
  replace hU := hU.on hD
  replace hX := hX.on hD
  replace hl1 := hl1.on hD
  replace hq1 := hq1.on hD
  replace hB := hB.trans (hD.mono hB.size)
  replace hT := hT.below hD
  clear hD
  have hq2 := hO2.use.2.1
  have hc2 := hO2.use.2.2.1
  have hm2 := hO2.use.2.2.2
  have hq3 := hO3.use.2.1
  have hc3 := hO3.use.2.2.1
  have hm3 := hO3.use.2.2.2
  clear hO2 hO3
  obtain ⟨w8, hw8⟩ : ∃ w', w7.alloc (.cells #[.int .u32 s.d0, .int .u32 s.d1, .int .u32 s.d2, .int .u32 s.d3, .int .i64 (h : Int), .int .i64 ((i : Int) + 1)] 30) = w' := ⟨_, rfl⟩
  obtain ⟨w9, hw9⟩ : ∃ w', (w7.alloc (.cells #[.int .u32 s.d0, .int .u32 s.d1, .int .u32 s.d2, .int .u32 s.d3, .int .i64 (h : Int), .int .i64 ((i : Int) + 1)] 30)).alloc (.cells #[.int .i64 (i : Int), .slice p2 35 c2, .slice p3 N c3] 38) = w' := ⟨_, rfl⟩
  have hsz1 : w8.heap.size = w7.heap.size + 1 := by rw [← hw8]; simp
  have hV : Box 30 (w7.heap.size) [.int .u32 s.d0, .int .u32 s.d1, .int .u32 s.d2, .int .u32 s.d3, .int .i64 (h : Int), .int .i64 ((i : Int) + 1)] w9 := by rw [← hw9]; exact (Box.new 30 [.int .u32 s.d0, .int .u32 s.d1, .int .u32 s.d2, .int .u32 s.d3, .int .i64 (h : Int), .int .i64 ((i : Int) + 1)] w7).al _
  have hY : Box 38 (w7.heap.size + 1) [.int .i64 (i : Int), .slice p2 35 c2, .slice p3 N c3] w9 := by rw [← hw9, ← hsz1, hw8]; exact Box.new 38 [.int .i64 (i : Int), .slice p2 35 c2, .slice p3 N c3] w8
  have hD : Below w7.heap.size w7 w9 := by rw [← hw9]; exact ((Below.refl _ _).alloc (Nat.le_refl _) _).alloc (by simp) _
  clear hsz1 hw8
  replace hS := hS.on hD
  replace hM := hM.on hD
  replace hU := hU.on hD
  replace hX := hX.on hD
  replace hl1 := hl1.on hD
  replace hq1 := hq1.on hD
  replace hq2 := hq2.on hD
  replace hq3 := hq3.on hD
  replace hB := hB.trans (hD.mono hB.size)
  replace hT := hT.below hD
  clear hD
  have hE := eqSR_yes s (h : Int) ((i : Int) + 1)
  have chU0 := hU.cell (j := 0) (v := .int .u32 s.d0) rfl
  have chU1 := hU.cell (j := 1) (v := .int .u32 s.d1) rfl
  have chU2 := hU.cell (j := 2) (v := .int .u32 s.d2) rfl
  have chU3 := hU.cell (j := 3) (v := .int .u32 s.d3) rfl
  have chU4 := hU.cell (j := 4) (v := .int .i64 (h : Int)) rfl
  have chU5 := hU.cell (j := 5) (v := .int .i64 ((i : Int) + 1)) rfl
  have chX0 := hX.cell (j := 0) (v := .int .i64 (i : Int)) rfl
  have chX1 := hX.cell (j := 1) (v := .slice (some ⟨g, 0, none⟩) 35 35) rfl
  have chX2 := hX.cell (j := 2) (v := .slice p1 N c1) rfl
  have chV0 := hV.cell (j := 0) (v := .int .u32 s.d0) rfl
  have chV1 := hV.cell (j := 1) (v := .int .u32 s.d1) rfl
  have chV2 := hV.cell (j := 2) (v := .int .u32 s.d2) rfl
  have chV3 := hV.cell (j := 3) (v := .int .u32 s.d3) rfl
  have chV4 := hV.cell (j := 4) (v := .int .i64 (h : Int)) rfl
  have chV5 := hV.cell (j := 5) (v := .int .i64 ((i : Int) + 1)) rfl
  have chY0 := hY.cell (j := 0) (v := .int .i64 (i : Int)) rfl
  have chY1 := hY.cell (j := 1) (v := .slice p2 35 c2) rfl
  have chY2 := hY.cell (j := 2) (v := .slice p3 N c3) rfl
  go_wp2_with fail
  clear hw9 chU0 chU1 chU2 chU3 chU4 chU5 chX0 chX1 chX2 chV0 chV1 chV2 chV3 chV4 chV5 chY0 chY1 chY2
  refine (rsame_yes (i : Int) L Q (some ⟨g, 0, none⟩) p1 p2 p3 35 35 N c1 c2 c3 w9 HLN.out HN.out.symm (rdS_some hl1) hq1 hq2 hq3 (Nat.le_refl _) (by unfold maxLen; omega) hc1 hm1 hc2 hm2 hc3 hm3).mono ?_
  rintro e w10 ⟨rfl, hD⟩
  replace hS := hS.on hD
  replace hM := hM.on hD
  replace hU := hU.on hD
  replace hX := hX.on hD
  replace hV := hV.on hD
  replace hY := hY.on hD
  replace hl1 := hl1.on hD
  replace hq1 := hq1.on hD
  replace hq2 := hq2.on hD
  replace hq3 := hq3.on hD
  replace hB := hB.trans (hD.mono hB.size)
  replace hT := hT.below hD
  clear hD
  clear hY hV
  clear hq2 hq3 hc2 hc3 hm2 hm3 hE
  have chS0 := hS.cell (j := 0) (v := .int .u32 s.d0) rfl
  have chS1 := hS.cell (j := 1) (v := .int .u32 s.d1) rfl
  have chS2 := hS.cell (j := 2) (v := .int .u32 s.d2) rfl
  have chS3 := hS.cell (j := 3) (v := .int .u32 s.d3) rfl
  have chS4 := hS.cell (j := 4) (v := .int .i64 (h : Int)) rfl
  have chS5 := hS.cell (j := 5) (v := .int .i64 (i : Int)) rfl
  go_wp2_with fail
  clear chS0 chS1 chS2 chS3 chS4 chS5
  refine (cpub_nmy s v h w10 hs hh hT HV.out).mono ?_
  rintro e w11 ⟨rfl, hD⟩
  replace hS := hS.on hD
  replace hM := hM.on hD
  replace hU := hU.on hD
  replace hX := hX.on hD
  replace hl1 := hl1.on hD
  replace hq1 := hq1.on hD
  replace hB := hB.trans (hD.mono hB.size)
  replace hT := hT.below hD
  clear hD
  obtain ⟨w12, hw12⟩ : ∃ w', w11.alloc (.cells #[.int .u32 v.d0, .int .u32 v.d1, .int .u32 v.d2, .int .u32 v.d3] 24) = w' := ⟨_, rfl⟩
  have hP : Box 24 w11.heap.size [.int .u32 v.d0, .int .u32 v.d1, .int .u32 v.d2, .int .u32 v.d3] w12 := by rw [← hw12]; exact Box.new 24 [.int .u32 v.d0, .int .u32 v.d1, .int .u32 v.d2, .int .u32 v.d3] w11
  have hD : Below w11.heap.size w11 w12 := by rw [← hw12]; exact (Below.refl _ _).alloc (Nat.le_refl _) _
  replace hS := hS.on hD
  replace hM := hM.on hD
  replace hU := hU.on hD
  replace hX := hX.on hD
  replace hl1 := hl1.on hD
  replace hq1 := hq1.on hD
  replace hB := hB.trans (hD.mono hB.size)
  replace hT := hT.below hD
  clear hD
  have chS0 := hS.cell (j := 0) (v := .int .u32 s.d0) rfl
  have chS1 := hS.cell (j := 1) (v := .int .u32 s.d1) rfl
  have chS2 := hS.cell (j := 2) (v := .int .u32 s.d2) rfl
  have chS3 := hS.cell (j := 3) (v := .int .u32 s.d3) rfl
  have chS4 := hS.cell (j := 4) (v := .int .i64 (h : Int)) rfl
  have chS5 := hS.cell (j := 5) (v := .int .i64 (i : Int)) rfl
  have chM0 := hM.cell (j := 0) (v := .int .u32 msg.d0) rfl
  have chM1 := hM.cell (j := 1) (v := .int .u32 msg.d1) rfl
  have chM2 := hM.cell (j := 2) (v := .int .u32 msg.d2) rfl
  have chM3 := hM.cell (j := 3) (v := .int .u32 msg.d3) rfl
  have chU0 := hU.cell (j := 0) (v := .int .u32 s.d0) rfl
  have chU1 := hU.cell (j := 1) (v := .int .u32 s.d1) rfl
  have chU2 := hU.cell (j := 2) (v := .int .u32 s.d2) rfl
  have chU3 := hU.cell (j := 3) (v := .int .u32 s.d3) rfl
  have chU4 := hU.cell (j := 4) (v := .int .i64 (h : Int)) rfl
  have chU5 := hU.cell (j := 5) (v := .int .i64 ((i : Int) + 1)) rfl
  have chX0 := hX.cell (j := 0) (v := .int .i64 (i : Int)) rfl
  have chX1 := hX.cell (j := 1) (v := .slice (some ⟨g, 0, none⟩) 35 35) rfl
  have chX2 := hX.cell (j := 2) (v := .slice p1 N c1) rfl
  have chP0 := hP.cell (j := 0) (v := .int .u32 v.d0) rfl
  have chP1 := hP.cell (j := 1) (v := .int .u32 v.d1) rfl
  have chP2 := hP.cell (j := 2) (v := .int .u32 v.d2) rfl
  have chP3 := hP.cell (j := 3) (v := .int .u32 v.d3) rfl
  go_wp2_with fail
  clear hw12 chS0 chS1 chS2 chS3 chS4 chS5 chM0 chM1 chM2 chM3 chU0 chU1 chU2 chU3 chU4 chU5 chX0 chX1 chX2 chP0 chP1 chP2 chP3
  refine (ccheck6_any v msg (i : Int) L Q true (some ⟨g, 0, none⟩) p1 35 35 N c1 w12 hmo HLO.out HQO.out HLN.out HN.out.symm (rdS_some hl1) hq1 (Nat.le_of_eq HLN.out.symm) (by unfold maxLen; omega) hc1 hm1 hT HC.out).mono ?_
  rintro e w13 ⟨rfl, hD⟩
  replace hS := hS.on hD
  replace hM := hM.on hD
  replace hU := hU.on hD
  replace hX := hX.on hD
  replace hP := hP.on hD
  replace hl1 := hl1.on hD
  replace hq1 := hq1.on hD
  replace hB := hB.trans (hD.mono hB.size)
  replace hT := hT.below hD
  clear hD
  go_wp2_with fail
  go_ret
  exact ⟨rfl, hB⟩
set_option maxHeartbeats 8000000 in
set_option maxRecDepth 100000 in
theorem uses_mid (s msg : D4) (a b : Int) (w : World) (hh : a = 3 ∨ a = 4) (hT : TurnsOk w) :
    Calls Tryd.prog 6 #[.agg #[.int .u32 s.d0, .int .u32 s.d1, .int .u32 s.d2, .int .u32 s.d3, .int .i64 a, .int .i64 b], .agg #[.int .u32 msg.d0, .int .u32 msg.d1, .int .u32 msg.d2, .int .u32 msg.d3]] w fun e w' => e = .returned (.bool true) ∧ Below w.heap.size w w' := by
  have he : (a == (3 : Int)) = true ∨ ((a == (3 : Int)) = false ∧ (a == (4 : Int)) = true) := by simp; omega
  clear hh
  obtain ⟨w1, hw1⟩ : ∃ w', w.alloc (.cells #[.int .u32 s.d0, .int .u32 s.d1, .int .u32 s.d2, .int .u32 s.d3, .int .i64 a, .int .i64 b] 30) = w' := ⟨_, rfl⟩
  have hS : Box 30 w.heap.size [.int .u32 s.d0, .int .u32 s.d1, .int .u32 s.d2, .int .u32 s.d3, .int .i64 a, .int .i64 b] w1 := by rw [← hw1]; exact Box.new 30 [.int .u32 s.d0, .int .u32 s.d1, .int .u32 s.d2, .int .u32 s.d3, .int .i64 a, .int .i64 b] w
  have hD : Below w.heap.size w w1 := by rw [← hw1]; exact (Below.refl _ _).alloc (Nat.le_refl _) _
  have hB := hD
  replace hT := hT.below hD
  clear hD
  obtain ⟨w2, hw2⟩ : ∃ w', w1.alloc (.cells #[.int .u32 msg.d0, .int .u32 msg.d1, .int .u32 msg.d2, .int .u32 msg.d3] 24) = w' := ⟨_, rfl⟩
  have hM : Box 24 w1.heap.size [.int .u32 msg.d0, .int .u32 msg.d1, .int .u32 msg.d2, .int .u32 msg.d3] w2 := by rw [← hw2]; exact Box.new 24 [.int .u32 msg.d0, .int .u32 msg.d1, .int .u32 msg.d2, .int .u32 msg.d3] w1
  have hD : Below w1.heap.size w1 w2 := by rw [← hw2]; exact (Below.refl _ _).alloc (Nat.le_refl _) _
  replace hS := hS.on hD
  replace hB := hB.trans (hD.mono hB.size)
  replace hT := hT.below hD
  clear hD
  go_enter Tryd.func6, Tryd.ntmps6
  have chS0 := hS.cell (j := 0) (v := .int .u32 s.d0) rfl
  have chS1 := hS.cell (j := 1) (v := .int .u32 s.d1) rfl
  have chS2 := hS.cell (j := 2) (v := .int .u32 s.d2) rfl
  have chS3 := hS.cell (j := 3) (v := .int .u32 s.d3) rfl
  have chS4 := hS.cell (j := 4) (v := .int .i64 a) rfl
  have chS5 := hS.cell (j := 5) (v := .int .i64 b) rfl
  have chM0 := hM.cell (j := 0) (v := .int .u32 msg.d0) rfl
  have chM1 := hM.cell (j := 1) (v := .int .u32 msg.d1) rfl
  have chM2 := hM.cell (j := 2) (v := .int .u32 msg.d2) rfl
  have chM3 := hM.cell (j := 3) (v := .int .u32 msg.d3) rfl
  go_wp2_with fail
  clear hw1 hw2 chS0 chS1 chS2 chS3 chS4 chS5 chM0 chM1 chM2 chM3
  refine (awake6_any w2 hT).mono ?_
  rintro e w3 ⟨rfl, hD⟩
  replace hS := hS.on hD
  replace hM := hM.on hD
  replace hB := hB.trans (hD.mono hB.size)
  replace hT := hT.below hD
  clear hD
  have chS0 := hS.cell (j := 0) (v := .int .u32 s.d0) rfl
  have chS1 := hS.cell (j := 1) (v := .int .u32 s.d1) rfl
  have chS2 := hS.cell (j := 2) (v := .int .u32 s.d2) rfl
  have chS3 := hS.cell (j := 3) (v := .int .u32 s.d3) rfl
  have chS4 := hS.cell (j := 4) (v := .int .i64 a) rfl
  have chS5 := hS.cell (j := 5) (v := .int .i64 b) rfl
  rcases he with e3 | ⟨e3, e4⟩
  all_goals
    go_wp2_with fail
    go_ret
    exact ⟨rfl, hB⟩
set_option maxHeartbeats 8000000 in
set_option maxRecDepth 100000 in
theorem uses_high (s msg : D4) (a b : Int) (w : World) (hh : a < 0 ∨ 4 < a) (hT : TurnsOk w) :
    Calls Tryd.prog 6 #[.agg #[.int .u32 s.d0, .int .u32 s.d1, .int .u32 s.d2, .int .u32 s.d3, .int .i64 a, .int .i64 b], .agg #[.int .u32 msg.d0, .int .u32 msg.d1, .int .u32 msg.d2, .int .u32 msg.d3]] w fun e w' => e = .returned (.bool true) ∧ Below w.heap.size w w' := by
  have e3 : (a == (3 : Int)) = false := by simp; omega
  have e4 : (a == (4 : Int)) = false := by simp; omega
  have HH := Lib.hid hh
  clear hh
  obtain ⟨w1, hw1⟩ : ∃ w', w.alloc (.cells #[.int .u32 s.d0, .int .u32 s.d1, .int .u32 s.d2, .int .u32 s.d3, .int .i64 a, .int .i64 b] 30) = w' := ⟨_, rfl⟩
  have hS : Box 30 w.heap.size [.int .u32 s.d0, .int .u32 s.d1, .int .u32 s.d2, .int .u32 s.d3, .int .i64 a, .int .i64 b] w1 := by rw [← hw1]; exact Box.new 30 [.int .u32 s.d0, .int .u32 s.d1, .int .u32 s.d2, .int .u32 s.d3, .int .i64 a, .int .i64 b] w
  have hD : Below w.heap.size w w1 := by rw [← hw1]; exact (Below.refl _ _).alloc (Nat.le_refl _) _
  have hB := hD
  replace hT := hT.below hD
  clear hD
  obtain ⟨w2, hw2⟩ : ∃ w', w1.alloc (.cells #[.int .u32 msg.d0, .int .u32 msg.d1, .int .u32 msg.d2, .int .u32 msg.d3] 24) = w' := ⟨_, rfl⟩
  have hM : Box 24 w1.heap.size [.int .u32 msg.d0, .int .u32 msg.d1, .int .u32 msg.d2, .int .u32 msg.d3] w2 := by rw [← hw2]; exact Box.new 24 [.int .u32 msg.d0, .int .u32 msg.d1, .int .u32 msg.d2, .int .u32 msg.d3] w1
  have hD : Below w1.heap.size w1 w2 := by rw [← hw2]; exact (Below.refl _ _).alloc (Nat.le_refl _) _
  replace hS := hS.on hD
  replace hB := hB.trans (hD.mono hB.size)
  replace hT := hT.below hD
  clear hD
  go_enter Tryd.func6, Tryd.ntmps6
  have chS0 := hS.cell (j := 0) (v := .int .u32 s.d0) rfl
  have chS1 := hS.cell (j := 1) (v := .int .u32 s.d1) rfl
  have chS2 := hS.cell (j := 2) (v := .int .u32 s.d2) rfl
  have chS3 := hS.cell (j := 3) (v := .int .u32 s.d3) rfl
  have chS4 := hS.cell (j := 4) (v := .int .i64 a) rfl
  have chS5 := hS.cell (j := 5) (v := .int .i64 b) rfl
  have chM0 := hM.cell (j := 0) (v := .int .u32 msg.d0) rfl
  have chM1 := hM.cell (j := 1) (v := .int .u32 msg.d1) rfl
  have chM2 := hM.cell (j := 2) (v := .int .u32 msg.d2) rfl
  have chM3 := hM.cell (j := 3) (v := .int .u32 msg.d3) rfl
  go_wp2_with fail
  clear hw1 hw2 chS0 chS1 chS2 chS3 chS4 chS5 chM0 chM1 chM2 chM3
  refine (awake6_any w2 hT).mono ?_
  rintro e w3 ⟨rfl, hD⟩
  replace hS := hS.on hD
  replace hM := hM.on hD
  replace hB := hB.trans (hD.mono hB.size)
  replace hT := hT.below hD
  clear hD
  have chS0 := hS.cell (j := 0) (v := .int .u32 s.d0) rfl
  have chS1 := hS.cell (j := 1) (v := .int .u32 s.d1) rfl
  have chS2 := hS.cell (j := 2) (v := .int .u32 s.d2) rfl
  have chS3 := hS.cell (j := 3) (v := .int .u32 s.d3) rfl
  have chS4 := hS.cell (j := 4) (v := .int .i64 a) rfl
  have chS5 := hS.cell (j := 5) (v := .int .i64 b) rfl
  have chM0 := hM.cell (j := 0) (v := .int .u32 msg.d0) rfl
  have chM1 := hM.cell (j := 1) (v := .int .u32 msg.d1) rfl
  have chM2 := hM.cell (j := 2) (v := .int .u32 msg.d2) rfl
  have chM3 := hM.cell (j := 3) (v := .int .u32 msg.d3) rfl
  go_wp2_with fail
  clear chS0 chS1 chS2 chS3 chS4 chS5 chM0 chM1 chM2 chM3
  refine (cuse6_range s msg a b w3 HH.out).mono ?_
  rintro e w4 ⟨rfl, hD⟩
  replace hS := hS.on hD
  replace hM := hM.on hD
  replace hB := hB.trans (hD.mono hB.size)
  replace hT := hT.below hD
  clear hD
  obtain ⟨w5, hw5⟩ : ∃ w', w4.alloc (.cells #[.int .u32 0, .int .u32 0, .int .u32 0, .int .u32 0, .int .i64 0, .int .i64 0] 30) = w' := ⟨_, rfl⟩
  obtain ⟨w6, hw6⟩ : ∃ w', w5.alloc (.cells #[.int .i64 0, .slice none 0 0, .slice none 0 0] 38) = w' := ⟨_, rfl⟩
  have hsz1 : w5.heap.size = w4.heap.size + 1 := by rw [← hw5]; simp
  have hU : Box 30 (w4.heap.size) [.int .u32 0, .int .u32 0, .int .u32 0, .int .u32 0, .int .i64 0, .int .i64 0] w6 := by rw [← hw6, ← hw5]; exact (Box.new 30 [.int .u32 0, .int .u32 0, .int .u32 0, .int .u32 0, .int .i64 0, .int .i64 0] w4).al _
  have hX : Box 38 (w4.heap.size + 1) [.int .i64 0, .slice none 0 0, .slice none 0 0] w6 := by rw [← hw6, ← hsz1]; exact Box.new 38 [.int .i64 0, .slice none 0 0, .slice none 0 0] w5
  have hD : Below w4.heap.size w4 w6 := by rw [← hw6, ← hw5]; exact ((Below.refl _ _).alloc (Nat.le_refl _) _).alloc (by simp) _
  have zhU0 := hU.cell (j := 0) (v := .int .u32 0) rfl
  have yhU0 := hU.fz 0
  have zhU1 := hU.cell (j := 1) (v := .int .u32 0) rfl
  have yhU1 := hU.fz 1
  have zhU2 := hU.cell (j := 2) (v := .int .u32 0) rfl
  have yhU2 := hU.fz 2
  have zhU3 := hU.cell (j := 3) (v := .int .u32 0) rfl
  have yhU3 := hU.fz 3
  have zhU4 := hU.cell (j := 4) (v := .int .i64 0) rfl
  have yhU4 := hU.fz 4
  have zhU5 := hU.cell (j := 5) (v := .int .i64 0) rfl
  have yhU5 := hU.fz 5
  have zhX0 := hX.cell (j := 0) (v := .int .i64 0) rfl
  have yhX0 := hX.fz 0
  have zhX1 := hX.cell (j := 1) (v := .slice none 0 0) rfl
  have yhX1 := hX.fz 1
  have zhX2 := hX.cell (j := 2) (v := .slice none 0 0) rfl
  have yhX2 := hX.fz 2
  obtain ⟨w7, hw7⟩ : ∃ w', (((((((((w6.setCell ⟨w4.heap.size, 0, none⟩ (.int .u32 0)).setCell ⟨w4.heap.size, 1, none⟩ (.int .u32 0)).setCell ⟨w4.heap.size, 2, none⟩ (.int .u32 0)).setCell ⟨w4.heap.size, 3, none⟩ (.int .u32 0)).setCell ⟨w4.heap.size, 4, none⟩ (.int .i64 0)).setCell ⟨w4.heap.size, 5, none⟩ (.int .i64 0)).setCell ⟨w4.heap.size + 1, 0, none⟩ (.int .i64 0)).setCell ⟨w4.heap.size + 1, 1, none⟩ (.slice none 0 0)).setCell ⟨w4.heap.size + 1, 2, none⟩ (.slice none 0 0)) = w' := ⟨_, rfl⟩
  have hne : w4.heap.size ≠ w4.heap.size + 1 := by omega
  have hge : w4.heap.size ≤ w4.heap.size + 1 := by omega
  replace hU : Box 30 (w4.heap.size) [.int .u32 0, .int .u32 0, .int .u32 0, .int .u32 0, .int .i64 0, .int .i64 0] w7 := by rw [← hw7]; exact (((((((((hU.set 0 (.int .u32 0)).set 1 (.int .u32 0)).set 2 (.int .u32 0)).set 3 (.int .u32 0)).set 4 (.int .i64 0)).set 5 (.int .i64 0)).far (a := ⟨w4.heap.size + 1, 0, none⟩) hne (.int .i64 0)).far (a := ⟨w4.heap.size + 1, 1, none⟩) hne (.slice none 0 0)).far (a := ⟨w4.heap.size + 1, 2, none⟩) hne (.slice none 0 0))
  replace hX : Box 38 (w4.heap.size + 1) [.int .i64 0, .slice none 0 0, .slice none 0 0] w7 := by rw [← hw7]; exact (((((((((hX.far (a := ⟨w4.heap.size, 0, none⟩) (Ne.symm hne) (.int .u32 0)).far (a := ⟨w4.heap.size, 1, none⟩) (Ne.symm hne) (.int .u32 0)).far (a := ⟨w4.heap.size, 2, none⟩) (Ne.symm hne) (.int .u32 0)).far (a := ⟨w4.heap.size, 3, none⟩) (Ne.symm hne) (.int .u32 0)).far (a := ⟨w4.heap.size, 4, none⟩) (Ne.symm hne) (.int .i64 0)).far (a := ⟨w4.heap.size, 5, none⟩) (Ne.symm hne) (.int .i64 0)).set 0 (.int .i64 0)).set 1 (.slice none 0 0)).set 2 (.slice none 0 0))
  replace hD : Below w4.heap.size w4 w7 := by rw [← hw7]; exact (((((((((hD.setCell (p := ⟨w4.heap.size, 0, none⟩) (Nat.le_refl _) (.int .u32 0)).setCell (p := ⟨w4.heap.size, 1, none⟩) (Nat.le_refl _) (.int .u32 0)).setCell (p := ⟨w4.heap.size, 2, none⟩) (Nat.le_refl _) (.int .u32 0)).setCell (p := ⟨w4.heap.size, 3, none⟩) (Nat.le_refl _) (.int .u32 0)).setCell (p := ⟨w4.heap.size, 4, none⟩) (Nat.le_refl _) (.int .i64 0)).setCell (p := ⟨w4.heap.size, 5, none⟩) (Nat.le_refl _) (.int .i64 0)).setCell (p := ⟨w4.heap.size + 1, 0, none⟩) hge (.int .i64 0)).setCell (p := ⟨w4.heap.size + 1, 1, none⟩) hge (.slice none 0 0)).setCell (p := ⟨w4.heap.size + 1, 2, none⟩) hge (.slice none 0 0))
  clear hne hge
  replace hS := hS.on hD
  replace hM := hM.on hD
  replace hB := hB.trans (hD.mono hB.size)
  replace hT := hT.below hD
  clear hD
  have chS0 := hS.cell (j := 0) (v := .int .u32 s.d0) rfl
  have chS1 := hS.cell (j := 1) (v := .int .u32 s.d1) rfl
  have chS2 := hS.cell (j := 2) (v := .int .u32 s.d2) rfl
  have chS3 := hS.cell (j := 3) (v := .int .u32 s.d3) rfl
  have chS4 := hS.cell (j := 4) (v := .int .i64 a) rfl
  have chS5 := hS.cell (j := 5) (v := .int .i64 b) rfl
  have chM0 := hM.cell (j := 0) (v := .int .u32 msg.d0) rfl
  have chM1 := hM.cell (j := 1) (v := .int .u32 msg.d1) rfl
  have chM2 := hM.cell (j := 2) (v := .int .u32 msg.d2) rfl
  have chM3 := hM.cell (j := 3) (v := .int .u32 msg.d3) rfl
  have chU0 := hU.cell (j := 0) (v := .int .u32 0) rfl
  have chU1 := hU.cell (j := 1) (v := .int .u32 0) rfl
  have chU2 := hU.cell (j := 2) (v := .int .u32 0) rfl
  have chU3 := hU.cell (j := 3) (v := .int .u32 0) rfl
  have chU4 := hU.cell (j := 4) (v := .int .i64 0) rfl
  have chU5 := hU.cell (j := 5) (v := .int .i64 0) rfl
  have chX0 := hX.cell (j := 0) (v := .int .i64 0) rfl
  have chX1 := hX.cell (j := 1) (v := .slice none 0 0) rfl
  have chX2 := hX.cell (j := 2) (v := .slice none 0 0) rfl
  go_wp2_with fail
  clear zhU0 yhU0 zhU1 yhU1 zhU2 yhU2 zhU3 yhU3 zhU4 yhU4 zhU5 yhU5 zhX0 yhX0 zhX1 yhX1 zhX2 yhX2 hw5 hw6 hsz1 hw7 chS0 chS1 chS2 chS3 chS4 chS5 chM0 chM1 chM2 chM3 chU0 chU1 chU2 chU3 chU4 chU5 chX0 chX1 chX2
  refine (ruse6_range s msg a b w7 HH.out).mono ?_
  rintro e w8 ⟨rfl, hD⟩
  replace hS := hS.on hD
  replace hM := hM.on hD
  replace hU := hU.on hD
  replace hX := hX.on hD
  replace hB := hB.trans (hD.mono hB.size)
  replace hT := hT.below hD
  clear hD
  obtain ⟨w9, hw9⟩ : ∃ w', w8.alloc (.cells #[.int .u32 0, .int .u32 0, .int .u32 0, .int .u32 0, .int .i64 0, .int .i64 0] 30) = w' := ⟨_, rfl⟩
  obtain ⟨w10, hw10⟩ : ∃ w', w9.alloc (.cells #[.int .i64 0, .slice none 0 0, .slice none 0 0] 38) = w' := ⟨_, rfl⟩
  have hsz1 : w9.heap.size = w8.heap.size + 1 := by rw [← hw9]; simp
  have hV : Box 30 (w8.heap.size) [.int .u32 0, .int .u32 0, .int .u32 0, .int .u32 0, .int .i64 0, .int .i64 0] w10 := by rw [← hw10, ← hw9]; exact (Box.new 30 [.int .u32 0, .int .u32 0, .int .u32 0, .int .u32 0, .int .i64 0, .int .i64 0] w8).al _
  have hY : Box 38 (w8.heap.size + 1) [.int .i64 0, .slice none 0 0, .slice none 0 0] w10 := by rw [← hw10, ← hsz1]; exact Box.new 38 [.int .i64 0, .slice none 0 0, .slice none 0 0] w9
  have hD : Below w8.heap.size w8 w10 := by rw [← hw10, ← hw9]; exact ((Below.refl _ _).alloc (Nat.le_refl _) _).alloc (by simp) _
  have zhV0 := hV.cell (j := 0) (v := .int .u32 0) rfl
  have yhV0 := hV.fz 0
  have zhV1 := hV.cell (j := 1) (v := .int .u32 0) rfl
  have yhV1 := hV.fz 1
  have zhV2 := hV.cell (j := 2) (v := .int .u32 0) rfl
  have yhV2 := hV.fz 2
  have zhV3 := hV.cell (j := 3) (v := .int .u32 0) rfl
  have yhV3 := hV.fz 3
  have zhV4 := hV.cell (j := 4) (v := .int .i64 0) rfl
  have yhV4 := hV.fz 4
  have zhV5 := hV.cell (j := 5) (v := .int .i64 0) rfl
  have yhV5 := hV.fz 5
  have zhY0 := hY.cell (j := 0) (v := .int .i64 0) rfl
  have yhY0 := hY.fz 0
  have zhY1 := hY.cell (j := 1) (v := .slice none 0 0) rfl
  have yhY1 := hY.fz 1
  have zhY2 := hY.cell (j := 2) (v := .slice none 0 0) rfl
  have yhY2 := hY.fz 2
  obtain ⟨w11, hw11⟩ : ∃ w', (((((((((w10.setCell ⟨w8.heap.size, 0, none⟩ (.int .u32 0)).setCell ⟨w8.heap.size, 1, none⟩ (.int .u32 0)).setCell ⟨w8.heap.size, 2, none⟩ (.int .u32 0)).setCell ⟨w8.heap.size, 3, none⟩ (.int .u32 0)).setCell ⟨w8.heap.size, 4, none⟩ (.int .i64 0)).setCell ⟨w8.heap.size, 5, none⟩ (.int .i64 0)).setCell ⟨w8.heap.size + 1, 0, none⟩ (.int .i64 0)).setCell ⟨w8.heap.size + 1, 1, none⟩ (.slice none 0 0)).setCell ⟨w8.heap.size + 1, 2, none⟩ (.slice none 0 0)) = w' := ⟨_, rfl⟩
  have hne : w8.heap.size ≠ w8.heap.size + 1 := by omega
  have hge : w8.heap.size ≤ w8.heap.size + 1 := by omega
  replace hV : Box 30 (w8.heap.size) [.int .u32 0, .int .u32 0, .int .u32 0, .int .u32 0, .int .i64 0, .int .i64 0] w11 := by rw [← hw11]; exact (((((((((hV.set 0 (.int .u32 0)).set 1 (.int .u32 0)).set 2 (.int .u32 0)).set 3 (.int .u32 0)).set 4 (.int .i64 0)).set 5 (.int .i64 0)).far (a := ⟨w8.heap.size + 1, 0, none⟩) hne (.int .i64 0)).far (a := ⟨w8.heap.size + 1, 1, none⟩) hne (.slice none 0 0)).far (a := ⟨w8.heap.size + 1, 2, none⟩) hne (.slice none 0 0))
  replace hY : Box 38 (w8.heap.size + 1) [.int .i64 0, .slice none 0 0, .slice none 0 0] w11 := by rw [← hw11]; exact (((((((((hY.far (a := ⟨w8.heap.size, 0, none⟩) (Ne.symm hne) (.int .u32 0)).far (a := ⟨w8.heap.size, 1, none⟩) (Ne.symm hne) (.int .u32 0)).far (a := ⟨w8.heap.size, 2, none⟩) (Ne.symm hne) (.int .u32 0)).far (a := ⟨w8.heap.size, 3, none⟩) (Ne.symm hne) (.int .u32 0)).far (a := ⟨w8.heap.size, 4, none⟩) (Ne.symm hne) (.int .i64 0)).far (a := ⟨w8.heap.size, 5, none⟩) (Ne.symm hne) (.int .i64 0)).set 0 (.int .i64 0)).set 1 (.slice none 0 0)).set 2 (.slice none 0 0))
  replace hD : Below w8.heap.size w8 w11 := by rw [← hw11]; exact (((((((((hD.setCell (p := ⟨w8.heap.size, 0, none⟩) (Nat.le_refl _) (.int .u32 0)).setCell (p := ⟨w8.heap.size, 1, none⟩) (Nat.le_refl _) (.int .u32 0)).setCell (p := ⟨w8.heap.size, 2, none⟩) (Nat.le_refl _) (.int .u32 0)).setCell (p := ⟨w8.heap.size, 3, none⟩) (Nat.le_refl _) (.int .u32 0)).setCell (p := ⟨w8.heap.size, 4, none⟩) (Nat.le_refl _) (.int .i64 0)).setCell (p := ⟨w8.heap.size, 5, none⟩) (Nat.le_refl _) (.int .i64 0)).setCell (p := ⟨w8.heap.size + 1, 0, none⟩) hge (.int .i64 0)).setCell (p := ⟨w8.heap.size + 1, 1, none⟩) hge (.slice none 0 0)).setCell (p := ⟨w8.heap.size + 1, 2, none⟩) hge (.slice none 0 0))
  clear hne hge
  replace hS := hS.on hD
  replace hM := hM.on hD
  replace hU := hU.on hD
  replace hX := hX.on hD
  replace hB := hB.trans (hD.mono hB.size)
  replace hT := hT.below hD
  clear hD
  have hE := eqSR_yes zeroD 0 0
  simp only [zeroD] at hE
  have chS0 := hS.cell (j := 0) (v := .int .u32 s.d0) rfl
  have chS1 := hS.cell (j := 1) (v := .int .u32 s.d1) rfl
  have chS2 := hS.cell (j := 2) (v := .int .u32 s.d2) rfl
  have chS3 := hS.cell (j := 3) (v := .int .u32 s.d3) rfl
  have chS4 := hS.cell (j := 4) (v := .int .i64 a) rfl
  have chS5 := hS.cell (j := 5) (v := .int .i64 b) rfl
  have chM0 := hM.cell (j := 0) (v := .int .u32 msg.d0) rfl
  have chM1 := hM.cell (j := 1) (v := .int .u32 msg.d1) rfl
  have chM2 := hM.cell (j := 2) (v := .int .u32 msg.d2) rfl
  have chM3 := hM.cell (j := 3) (v := .int .u32 msg.d3) rfl
  have chU0 := hU.cell (j := 0) (v := .int .u32 0) rfl
  have chU1 := hU.cell (j := 1) (v := .int .u32 0) rfl
  have chU2 := hU.cell (j := 2) (v := .int .u32 0) rfl
  have chU3 := hU.cell (j := 3) (v := .int .u32 0) rfl
  have chU4 := hU.cell (j := 4) (v := .int .i64 0) rfl
  have chU5 := hU.cell (j := 5) (v := .int .i64 0) rfl
  have chX0 := hX.cell (j := 0) (v := .int .i64 0) rfl
  have chX1 := hX.cell (j := 1) (v := .slice none 0 0) rfl
  have chX2 := hX.cell (j := 2) (v := .slice none 0 0) rfl
  have chV0 := hV.cell (j := 0) (v := .int .u32 0) rfl
  have chV1 := hV.cell (j := 1) (v := .int .u32 0) rfl
  have chV2 := hV.cell (j := 2) (v := .int .u32 0) rfl
  have chV3 := hV.cell (j := 3) (v := .int .u32 0) rfl
  have chV4 := hV.cell (j := 4) (v := .int .i64 0) rfl
  have chV5 := hV.cell (j := 5) (v := .int .i64 0) rfl
  have chY0 := hY.cell (j := 0) (v := .int .i64 0) rfl
  have chY1 := hY.cell (j := 1) (v := .slice none 0 0) rfl
  have chY2 := hY.cell (j := 2) (v := .slice none 0 0) rfl
  go_wp2_with fail
  clear zhV0 yhV0 zhV1 yhV1 zhV2 yhV2 zhV3 yhV3 zhV4 yhV4 zhV5 yhV5 zhY0 yhY0 zhY1 yhY1 zhY2 yhY2 hw9 hw10 hsz1 hw11 chS0 chS1 chS2 chS3 chS4 chS5 chM0 chM1 chM2 chM3 chU0 chU1 chU2 chU3 chU4 chU5 chX0 chX1 chX2 chV0 chV1 chV2 chV3 chV4 chV5 chY0 chY1 chY2
  refine (rsame_zero w11).mono ?_
  rintro e w12 ⟨rfl, hD⟩
  replace hS := hS.on hD
  replace hM := hM.on hD
  replace hU := hU.on hD
  replace hX := hX.on hD
  replace hV := hV.on hD
  replace hY := hY.on hD
  replace hB := hB.trans (hD.mono hB.size)
  replace hT := hT.below hD
  clear hD
  go_wp2_with fail
  go_ret
  exact ⟨rfl, hB⟩
set_option maxHeartbeats 8000000 in
set_option maxRecDepth 100000 in
theorem uses_none (s msg : D4) (h : Nat) (b : Int) (w : World) (hs : s.ok) (hh2 : h ≤ 2) (hh : h ≤ 4) (hi : b < 0 ∨ ((2 ^ h : Nat) : Int) ≤ b) (hT : TurnsOk w) :
    Calls Tryd.prog 6 #[.agg #[.int .u32 s.d0, .int .u32 s.d1, .int .u32 s.d2, .int .u32 s.d3, .int .i64 (h : Int), .int .i64 b], .agg #[.int .u32 msg.d0, .int .u32 msg.d1, .int .u32 msg.d2, .int .u32 msg.d3]] w fun e w' => e = .returned (.bool true) ∧ Below w.heap.size w w' := by
  have e3 : ((h : Int) == (3 : Int)) = false := by simp; omega
  have e4 : ((h : Int) == (4 : Int)) = false := by simp; omega
  have HI := Lib.hid hi
  clear hi
  obtain ⟨w1, hw1⟩ : ∃ w', w.alloc (.cells #[.int .u32 s.d0, .int .u32 s.d1, .int .u32 s.d2, .int .u32 s.d3, .int .i64 (h : Int), .int .i64 b] 30) = w' := ⟨_, rfl⟩
  have hS : Box 30 w.heap.size [.int .u32 s.d0, .int .u32 s.d1, .int .u32 s.d2, .int .u32 s.d3, .int .i64 (h : Int), .int .i64 b] w1 := by rw [← hw1]; exact Box.new 30 [.int .u32 s.d0, .int .u32 s.d1, .int .u32 s.d2, .int .u32 s.d3, .int .i64 (h : Int), .int .i64 b] w
  have hD : Below w.heap.size w w1 := by rw [← hw1]; exact (Below.refl _ _).alloc (Nat.le_refl _) _
  have hB := hD
  replace hT := hT.below hD
  clear hD
  obtain ⟨w2, hw2⟩ : ∃ w', w1.alloc (.cells #[.int .u32 msg.d0, .int .u32 msg.d1, .int .u32 msg.d2, .int .u32 msg.d3] 24) = w' := ⟨_, rfl⟩
  have hM : Box 24 w1.heap.size [.int .u32 msg.d0, .int .u32 msg.d1, .int .u32 msg.d2, .int .u32 msg.d3] w2 := by rw [← hw2]; exact Box.new 24 [.int .u32 msg.d0, .int .u32 msg.d1, .int .u32 msg.d2, .int .u32 msg.d3] w1
  have hD : Below w1.heap.size w1 w2 := by rw [← hw2]; exact (Below.refl _ _).alloc (Nat.le_refl _) _
  replace hS := hS.on hD
  replace hB := hB.trans (hD.mono hB.size)
  replace hT := hT.below hD
  clear hD
  go_enter Tryd.func6, Tryd.ntmps6
  have chS0 := hS.cell (j := 0) (v := .int .u32 s.d0) rfl
  have chS1 := hS.cell (j := 1) (v := .int .u32 s.d1) rfl
  have chS2 := hS.cell (j := 2) (v := .int .u32 s.d2) rfl
  have chS3 := hS.cell (j := 3) (v := .int .u32 s.d3) rfl
  have chS4 := hS.cell (j := 4) (v := .int .i64 (h : Int)) rfl
  have chS5 := hS.cell (j := 5) (v := .int .i64 b) rfl
  have chM0 := hM.cell (j := 0) (v := .int .u32 msg.d0) rfl
  have chM1 := hM.cell (j := 1) (v := .int .u32 msg.d1) rfl
  have chM2 := hM.cell (j := 2) (v := .int .u32 msg.d2) rfl
  have chM3 := hM.cell (j := 3) (v := .int .u32 msg.d3) rfl
  go_wp2_with fail
  clear hw1 hw2 chS0 chS1 chS2 chS3 chS4 chS5 chM0 chM1 chM2 chM3
  refine (awake6_any w2 hT).mono ?_
  rintro e w3 ⟨rfl, hD⟩
  replace hS := hS.on hD
  replace hM := hM.on hD
  replace hB := hB.trans (hD.mono hB.size)
  replace hT := hT.below hD
  clear hD
  have chS0 := hS.cell (j := 0) (v := .int .u32 s.d0) rfl
  have chS1 := hS.cell (j := 1) (v := .int .u32 s.d1) rfl
  have chS2 := hS.cell (j := 2) (v := .int .u32 s.d2) rfl
  have chS3 := hS.cell (j := 3) (v := .int .u32 s.d3) rfl
  have chS4 := hS.cell (j := 4) (v := .int .i64 (h : Int)) rfl
  have chS5 := hS.cell (j := 5) (v := .int .i64 b) rfl
  have chM0 := hM.cell (j := 0) (v := .int .u32 msg.d0) rfl
  have chM1 := hM.cell (j := 1) (v := .int .u32 msg.d1) rfl
  have chM2 := hM.cell (j := 2) (v := .int .u32 msg.d2) rfl
  have chM3 := hM.cell (j := 3) (v := .int .u32 msg.d3) rfl
  go_wp2_with fail
  clear chS0 chS1 chS2 chS3 chS4 chS5 chM0 chM1 chM2 chM3
  refine (cuse6_used s msg h b w3 hs hT hh HI.out).mono ?_
  rintro e w4 ⟨rfl, hD⟩
  replace hS := hS.on hD
  replace hM := hM.on hD
  replace hB := hB.trans (hD.mono hB.size)
  replace hT := hT.below hD
  clear hD
  obtain ⟨w5, hw5⟩ : ∃ w', w4.alloc (.cells #[.int .u32 0, .int .u32 0, .int .u32 0, .int .u32 0, .int .i64 0, .int .i64 0] 30) = w' := ⟨_, rfl⟩
  obtain ⟨w6, hw6⟩ : ∃ w', w5.alloc (.cells #[.int .i64 0, .slice none 0 0, .slice none 0 0] 38) = w' := ⟨_, rfl⟩
  have hsz1 : w5.heap.size = w4.heap.size + 1 := by rw [← hw5]; simp
  have hU : Box 30 (w4.heap.size) [.int .u32 0, .int .u32 0, .int .u32 0, .int .u32 0, .int .i64 0, .int .i64 0] w6 := by rw [← hw6, ← hw5]; exact (Box.new 30 [.int .u32 0, .int .u32 0, .int .u32 0, .int .u32 0, .int .i64 0, .int .i64 0] w4).al _
  have hX : Box 38 (w4.heap.size + 1) [.int .i64 0, .slice none 0 0, .slice none 0 0] w6 := by rw [← hw6, ← hsz1]; exact Box.new 38 [.int .i64 0, .slice none 0 0, .slice none 0 0] w5
  have hD : Below w4.heap.size w4 w6 := by rw [← hw6, ← hw5]; exact ((Below.refl _ _).alloc (Nat.le_refl _) _).alloc (by simp) _
  have zhU0 := hU.cell (j := 0) (v := .int .u32 0) rfl
  have yhU0 := hU.fz 0
  have zhU1 := hU.cell (j := 1) (v := .int .u32 0) rfl
  have yhU1 := hU.fz 1
  have zhU2 := hU.cell (j := 2) (v := .int .u32 0) rfl
  have yhU2 := hU.fz 2
  have zhU3 := hU.cell (j := 3) (v := .int .u32 0) rfl
  have yhU3 := hU.fz 3
  have zhU4 := hU.cell (j := 4) (v := .int .i64 0) rfl
  have yhU4 := hU.fz 4
  have zhU5 := hU.cell (j := 5) (v := .int .i64 0) rfl
  have yhU5 := hU.fz 5
  have zhX0 := hX.cell (j := 0) (v := .int .i64 0) rfl
  have yhX0 := hX.fz 0
  have zhX1 := hX.cell (j := 1) (v := .slice none 0 0) rfl
  have yhX1 := hX.fz 1
  have zhX2 := hX.cell (j := 2) (v := .slice none 0 0) rfl
  have yhX2 := hX.fz 2
  obtain ⟨w7, hw7⟩ : ∃ w', (((((((((w6.setCell ⟨w4.heap.size, 0, none⟩ (.int .u32 0)).setCell ⟨w4.heap.size, 1, none⟩ (.int .u32 0)).setCell ⟨w4.heap.size, 2, none⟩ (.int .u32 0)).setCell ⟨w4.heap.size, 3, none⟩ (.int .u32 0)).setCell ⟨w4.heap.size, 4, none⟩ (.int .i64 0)).setCell ⟨w4.heap.size, 5, none⟩ (.int .i64 0)).setCell ⟨w4.heap.size + 1, 0, none⟩ (.int .i64 0)).setCell ⟨w4.heap.size + 1, 1, none⟩ (.slice none 0 0)).setCell ⟨w4.heap.size + 1, 2, none⟩ (.slice none 0 0)) = w' := ⟨_, rfl⟩
  have hne : w4.heap.size ≠ w4.heap.size + 1 := by omega
  have hge : w4.heap.size ≤ w4.heap.size + 1 := by omega
  replace hU : Box 30 (w4.heap.size) [.int .u32 0, .int .u32 0, .int .u32 0, .int .u32 0, .int .i64 0, .int .i64 0] w7 := by rw [← hw7]; exact (((((((((hU.set 0 (.int .u32 0)).set 1 (.int .u32 0)).set 2 (.int .u32 0)).set 3 (.int .u32 0)).set 4 (.int .i64 0)).set 5 (.int .i64 0)).far (a := ⟨w4.heap.size + 1, 0, none⟩) hne (.int .i64 0)).far (a := ⟨w4.heap.size + 1, 1, none⟩) hne (.slice none 0 0)).far (a := ⟨w4.heap.size + 1, 2, none⟩) hne (.slice none 0 0))
  replace hX : Box 38 (w4.heap.size + 1) [.int .i64 0, .slice none 0 0, .slice none 0 0] w7 := by rw [← hw7]; exact (((((((((hX.far (a := ⟨w4.heap.size, 0, none⟩) (Ne.symm hne) (.int .u32 0)).far (a := ⟨w4.heap.size, 1, none⟩) (Ne.symm hne) (.int .u32 0)).far (a := ⟨w4.heap.size, 2, none⟩) (Ne.symm hne) (.int .u32 0)).far (a := ⟨w4.heap.size, 3, none⟩) (Ne.symm hne) (.int .u32 0)).far (a := ⟨w4.heap.size, 4, none⟩) (Ne.symm hne) (.int .i64 0)).far (a := ⟨w4.heap.size, 5, none⟩) (Ne.symm hne) (.int .i64 0)).set 0 (.int .i64 0)).set 1 (.slice none 0 0)).set 2 (.slice none 0 0))
  replace hD : Below w4.heap.size w4 w7 := by rw [← hw7]; exact (((((((((hD.setCell (p := ⟨w4.heap.size, 0, none⟩) (Nat.le_refl _) (.int .u32 0)).setCell (p := ⟨w4.heap.size, 1, none⟩) (Nat.le_refl _) (.int .u32 0)).setCell (p := ⟨w4.heap.size, 2, none⟩) (Nat.le_refl _) (.int .u32 0)).setCell (p := ⟨w4.heap.size, 3, none⟩) (Nat.le_refl _) (.int .u32 0)).setCell (p := ⟨w4.heap.size, 4, none⟩) (Nat.le_refl _) (.int .i64 0)).setCell (p := ⟨w4.heap.size, 5, none⟩) (Nat.le_refl _) (.int .i64 0)).setCell (p := ⟨w4.heap.size + 1, 0, none⟩) hge (.int .i64 0)).setCell (p := ⟨w4.heap.size + 1, 1, none⟩) hge (.slice none 0 0)).setCell (p := ⟨w4.heap.size + 1, 2, none⟩) hge (.slice none 0 0))
  clear hne hge
  replace hS := hS.on hD
  replace hM := hM.on hD
  replace hB := hB.trans (hD.mono hB.size)
  replace hT := hT.below hD
  clear hD
  have chS0 := hS.cell (j := 0) (v := .int .u32 s.d0) rfl
  have chS1 := hS.cell (j := 1) (v := .int .u32 s.d1) rfl
  have chS2 := hS.cell (j := 2) (v := .int .u32 s.d2) rfl
  have chS3 := hS.cell (j := 3) (v := .int .u32 s.d3) rfl
  have chS4 := hS.cell (j := 4) (v := .int .i64 (h : Int)) rfl
  have chS5 := hS.cell (j := 5) (v := .int .i64 b) rfl
  have chM0 := hM.cell (j := 0) (v := .int .u32 msg.d0) rfl
  have chM1 := hM.cell (j := 1) (v := .int .u32 msg.d1) rfl
  have chM2 := hM.cell (j := 2) (v := .int .u32 msg.d2) rfl
  have chM3 := hM.cell (j := 3) (v := .int .u32 msg.d3) rfl
  have chU0 := hU.cell (j := 0) (v := .int .u32 0) rfl
  have chU1 := hU.cell (j := 1) (v := .int .u32 0) rfl
  have chU2 := hU.cell (j := 2) (v := .int .u32 0) rfl
  have chU3 := hU.cell (j := 3) (v := .int .u32 0) rfl
  have chU4 := hU.cell (j := 4) (v := .int .i64 0) rfl
  have chU5 := hU.cell (j := 5) (v := .int .i64 0) rfl
  have chX0 := hX.cell (j := 0) (v := .int .i64 0) rfl
  have chX1 := hX.cell (j := 1) (v := .slice none 0 0) rfl
  have chX2 := hX.cell (j := 2) (v := .slice none 0 0) rfl
  go_wp2_with fail
  clear zhU0 yhU0 zhU1 yhU1 zhU2 yhU2 zhU3 yhU3 zhU4 yhU4 zhU5 yhU5 zhX0 yhX0 zhX1 yhX1 zhX2 yhX2 hw5 hw6 hsz1 hw7 chS0 chS1 chS2 chS3 chS4 chS5 chM0 chM1 chM2 chM3 chU0 chU1 chU2 chU3 chU4 chU5 chX0 chX1 chX2
  refine (ruse6_used s msg h b w7 hs hh HI.out).mono ?_
  rintro e w8 ⟨rfl, hD⟩
  replace hS := hS.on hD
  replace hM := hM.on hD
  replace hU := hU.on hD
  replace hX := hX.on hD
  replace hB := hB.trans (hD.mono hB.size)
  replace hT := hT.below hD
  clear hD
  obtain ⟨w9, hw9⟩ : ∃ w', w8.alloc (.cells #[.int .u32 0, .int .u32 0, .int .u32 0, .int .u32 0, .int .i64 0, .int .i64 0] 30) = w' := ⟨_, rfl⟩
  obtain ⟨w10, hw10⟩ : ∃ w', w9.alloc (.cells #[.int .i64 0, .slice none 0 0, .slice none 0 0] 38) = w' := ⟨_, rfl⟩
  have hsz1 : w9.heap.size = w8.heap.size + 1 := by rw [← hw9]; simp
  have hV : Box 30 (w8.heap.size) [.int .u32 0, .int .u32 0, .int .u32 0, .int .u32 0, .int .i64 0, .int .i64 0] w10 := by rw [← hw10, ← hw9]; exact (Box.new 30 [.int .u32 0, .int .u32 0, .int .u32 0, .int .u32 0, .int .i64 0, .int .i64 0] w8).al _
  have hY : Box 38 (w8.heap.size + 1) [.int .i64 0, .slice none 0 0, .slice none 0 0] w10 := by rw [← hw10, ← hsz1]; exact Box.new 38 [.int .i64 0, .slice none 0 0, .slice none 0 0] w9
  have hD : Below w8.heap.size w8 w10 := by rw [← hw10, ← hw9]; exact ((Below.refl _ _).alloc (Nat.le_refl _) _).alloc (by simp) _
  have zhV0 := hV.cell (j := 0) (v := .int .u32 0) rfl
  have yhV0 := hV.fz 0
  have zhV1 := hV.cell (j := 1) (v := .int .u32 0) rfl
  have yhV1 := hV.fz 1
  have zhV2 := hV.cell (j := 2) (v := .int .u32 0) rfl
  have yhV2 := hV.fz 2
  have zhV3 := hV.cell (j := 3) (v := .int .u32 0) rfl
  have yhV3 := hV.fz 3
  have zhV4 := hV.cell (j := 4) (v := .int .i64 0) rfl
  have yhV4 := hV.fz 4
  have zhV5 := hV.cell (j := 5) (v := .int .i64 0) rfl
  have yhV5 := hV.fz 5
  have zhY0 := hY.cell (j := 0) (v := .int .i64 0) rfl
  have yhY0 := hY.fz 0
  have zhY1 := hY.cell (j := 1) (v := .slice none 0 0) rfl
  have yhY1 := hY.fz 1
  have zhY2 := hY.cell (j := 2) (v := .slice none 0 0) rfl
  have yhY2 := hY.fz 2
  obtain ⟨w11, hw11⟩ : ∃ w', (((((((((w10.setCell ⟨w8.heap.size, 0, none⟩ (.int .u32 0)).setCell ⟨w8.heap.size, 1, none⟩ (.int .u32 0)).setCell ⟨w8.heap.size, 2, none⟩ (.int .u32 0)).setCell ⟨w8.heap.size, 3, none⟩ (.int .u32 0)).setCell ⟨w8.heap.size, 4, none⟩ (.int .i64 0)).setCell ⟨w8.heap.size, 5, none⟩ (.int .i64 0)).setCell ⟨w8.heap.size + 1, 0, none⟩ (.int .i64 0)).setCell ⟨w8.heap.size + 1, 1, none⟩ (.slice none 0 0)).setCell ⟨w8.heap.size + 1, 2, none⟩ (.slice none 0 0)) = w' := ⟨_, rfl⟩
  have hne : w8.heap.size ≠ w8.heap.size + 1 := by omega
  have hge : w8.heap.size ≤ w8.heap.size + 1 := by omega
  replace hV : Box 30 (w8.heap.size) [.int .u32 0, .int .u32 0, .int .u32 0, .int .u32 0, .int .i64 0, .int .i64 0] w11 := by rw [← hw11]; exact (((((((((hV.set 0 (.int .u32 0)).set 1 (.int .u32 0)).set 2 (.int .u32 0)).set 3 (.int .u32 0)).set 4 (.int .i64 0)).set 5 (.int .i64 0)).far (a := ⟨w8.heap.size + 1, 0, none⟩) hne (.int .i64 0)).far (a := ⟨w8.heap.size + 1, 1, none⟩) hne (.slice none 0 0)).far (a := ⟨w8.heap.size + 1, 2, none⟩) hne (.slice none 0 0))
  replace hY : Box 38 (w8.heap.size + 1) [.int .i64 0, .slice none 0 0, .slice none 0 0] w11 := by rw [← hw11]; exact (((((((((hY.far (a := ⟨w8.heap.size, 0, none⟩) (Ne.symm hne) (.int .u32 0)).far (a := ⟨w8.heap.size, 1, none⟩) (Ne.symm hne) (.int .u32 0)).far (a := ⟨w8.heap.size, 2, none⟩) (Ne.symm hne) (.int .u32 0)).far (a := ⟨w8.heap.size, 3, none⟩) (Ne.symm hne) (.int .u32 0)).far (a := ⟨w8.heap.size, 4, none⟩) (Ne.symm hne) (.int .i64 0)).far (a := ⟨w8.heap.size, 5, none⟩) (Ne.symm hne) (.int .i64 0)).set 0 (.int .i64 0)).set 1 (.slice none 0 0)).set 2 (.slice none 0 0))
  replace hD : Below w8.heap.size w8 w11 := by rw [← hw11]; exact (((((((((hD.setCell (p := ⟨w8.heap.size, 0, none⟩) (Nat.le_refl _) (.int .u32 0)).setCell (p := ⟨w8.heap.size, 1, none⟩) (Nat.le_refl _) (.int .u32 0)).setCell (p := ⟨w8.heap.size, 2, none⟩) (Nat.le_refl _) (.int .u32 0)).setCell (p := ⟨w8.heap.size, 3, none⟩) (Nat.le_refl _) (.int .u32 0)).setCell (p := ⟨w8.heap.size, 4, none⟩) (Nat.le_refl _) (.int .i64 0)).setCell (p := ⟨w8.heap.size, 5, none⟩) (Nat.le_refl _) (.int .i64 0)).setCell (p := ⟨w8.heap.size + 1, 0, none⟩) hge (.int .i64 0)).setCell (p := ⟨w8.heap.size + 1, 1, none⟩) hge (.slice none 0 0)).setCell (p := ⟨w8.heap.size + 1, 2, none⟩) hge (.slice none 0 0))
  clear hne hge
  replace hS := hS.on hD
  replace hM := hM.on hD
  replace hU := hU.on hD
  replace hX := hX.on hD
  replace hB := hB.trans (hD.mono hB.size)
  replace hT := hT.below hD
  clear hD
  have hE := eqSR_yes zeroD 0 0
  simp only [zeroD] at hE
  have chS0 := hS.cell (j := 0) (v := .int .u32 s.d0) rfl
  have chS1 := hS.cell (j := 1) (v := .int .u32 s.d1) rfl
  have chS2 := hS.cell (j := 2) (v := .int .u32 s.d2) rfl
  have chS3 := hS.cell (j := 3) (v := .int .u32 s.d3) rfl
  have chS4 := hS.cell (j := 4) (v := .int .i64 (h : Int)) rfl
  have chS5 := hS.cell (j := 5) (v := .int .i64 b) rfl
  have chM0 := hM.cell (j := 0) (v := .int .u32 msg.d0) rfl
  have chM1 := hM.cell (j := 1) (v := .int .u32 msg.d1) rfl
  have chM2 := hM.cell (j := 2) (v := .int .u32 msg.d2) rfl
  have chM3 := hM.cell (j := 3) (v := .int .u32 msg.d3) rfl
  have chU0 := hU.cell (j := 0) (v := .int .u32 0) rfl
  have chU1 := hU.cell (j := 1) (v := .int .u32 0) rfl
  have chU2 := hU.cell (j := 2) (v := .int .u32 0) rfl
  have chU3 := hU.cell (j := 3) (v := .int .u32 0) rfl
  have chU4 := hU.cell (j := 4) (v := .int .i64 0) rfl
  have chU5 := hU.cell (j := 5) (v := .int .i64 0) rfl
  have chX0 := hX.cell (j := 0) (v := .int .i64 0) rfl
  have chX1 := hX.cell (j := 1) (v := .slice none 0 0) rfl
  have chX2 := hX.cell (j := 2) (v := .slice none 0 0) rfl
  have chV0 := hV.cell (j := 0) (v := .int .u32 0) rfl
  have chV1 := hV.cell (j := 1) (v := .int .u32 0) rfl
  have chV2 := hV.cell (j := 2) (v := .int .u32 0) rfl
  have chV3 := hV.cell (j := 3) (v := .int .u32 0) rfl
  have chV4 := hV.cell (j := 4) (v := .int .i64 0) rfl
  have chV5 := hV.cell (j := 5) (v := .int .i64 0) rfl
  have chY0 := hY.cell (j := 0) (v := .int .i64 0) rfl
  have chY1 := hY.cell (j := 1) (v := .slice none 0 0) rfl
  have chY2 := hY.cell (j := 2) (v := .slice none 0 0) rfl
  go_wp2_with fail
  clear zhV0 yhV0 zhV1 yhV1 zhV2 yhV2 zhV3 yhV3 zhV4 yhV4 zhV5 yhV5 zhY0 yhY0 zhY1 yhY1 zhY2 yhY2 hw9 hw10 hsz1 hw11 chS0 chS1 chS2 chS3 chS4 chS5 chM0 chM1 chM2 chM3 chU0 chU1 chU2 chU3 chU4 chU5 chX0 chX1 chX2 chV0 chV1 chV2 chV3 chV4 chV5 chY0 chY1 chY2
  refine (rsame_zero w11).mono ?_
  rintro e w12 ⟨rfl, hD⟩
  replace hS := hS.on hD
  replace hM := hM.on hD
  replace hU := hU.on hD
  replace hX := hX.on hD
  replace hV := hV.on hD
  replace hY := hY.on hD
  replace hB := hB.trans (hD.mono hB.size)
  replace hT := hT.below hD
  clear hD
  go_wp2_with fail
  go_ret
  exact ⟨rfl, hB⟩
theorem uses_walk (s msg : D4) (a b : Int) (w : World) (hs : s.ok) (hmo : msg.ok) (hT : TurnsOk w) :
    Calls Tryd.prog 6 #[.agg #[.int .u32 s.d0, .int .u32 s.d1, .int .u32 s.d2, .int .u32 s.d3, .int .i64 a, .int .i64 b], .agg #[.int .u32 msg.d0, .int .u32 msg.d1, .int .u32 msg.d2, .int .u32 msg.d3]] w fun e w' => e = .returned (.bool true) ∧ Below w.heap.size w w' := by
  by_cases h1 : a = 3 ∨ a = 4
  · exact uses_mid s msg a b w h1 hT
  · by_cases h2 : a < 0 ∨ 4 < a
    · exact uses_high s msg a b w h2 hT
    · obtain ⟨n, rfl⟩ := Int.eq_ofNat_of_zero_le (show 0 ≤ a by omega)
      by_cases h3 : b < 0 ∨ ((2 ^ n : Nat) : Int) ≤ b
      · exact uses_none s msg n b w hs (by omega) (by omega) h3 hT
      · obtain ⟨k, rfl⟩ := Int.eq_ofNat_of_zero_le (show 0 ≤ b by omega)
        have hk : k < 2 ^ n := by omega
        exact uses_good s msg n k w hs hmo (by omega) (by omega) hk (Nat.lt_of_lt_of_le hk (pow_le16 (Nat.le_refl _) (by omega))) hT
end Go.Proofs.YtdphhpmkcalahaaDoor
