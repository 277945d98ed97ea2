/-
  KeysPlaces: the walks (written by gen_law66.py).
-/
import Derived.Test.YtdphhpmkcalahaaDoorKyU
import Derived.Test.YtdphhpmkcalahaaDoorKyQ
namespace Go.Proofs.YtdphhpmkcalahaaDoor
open Go.RowKit

theorem keepE {B bY bZ bl ol k i : Nat} {ak ai : D4} {W w' : World} {v0 v1 v2 u0 u1 u2 : Value} (h : Below B W w') (g0 : bY < B) (g1 : bZ < B) (g2 : bl < B) (f : W.cell? ⟨bY, 0, none⟩ = some (v0) ∧ W.cell? ⟨bY, 1, none⟩ = some (v1) ∧ W.cell? ⟨bY, 2, none⟩ = some (v2) ∧ W.cell? ⟨bZ, 0, none⟩ = some (u0) ∧ W.cell? ⟨bZ, 1, none⟩ = some (u1) ∧ W.cell? ⟨bZ, 2, none⟩ = some (u2) ∧ W.cell? ⟨bl, ol + k * 4, none⟩ = some (.int .u32 ak.d0) ∧ W.cell? ⟨bl, ol + k * 4 + 1, none⟩ = some (.int .u32 ak.d1) ∧ W.cell? ⟨bl, ol + k * 4 + 2, none⟩ = some (.int .u32 ak.d2) ∧ W.cell? ⟨bl, ol + k * 4 + 3, none⟩ = some (.int .u32 ak.d3) ∧ W.cell? ⟨bl, ol + i * 4, none⟩ = some (.int .u32 ai.d0) ∧ W.cell? ⟨bl, ol + i * 4 + 1, none⟩ = some (.int .u32 ai.d1) ∧ W.cell? ⟨bl, ol + i * 4 + 2, none⟩ = some (.int .u32 ai.d2) ∧ W.cell? ⟨bl, ol + i * 4 + 3, none⟩ = some (.int .u32 ai.d3)) : w'.cell? ⟨bY, 0, none⟩ = some (v0) ∧ w'.cell? ⟨bY, 1, none⟩ = some (v1) ∧ w'.cell? ⟨bY, 2, none⟩ = some (v2) ∧ w'.cell? ⟨bZ, 0, none⟩ = some (u0) ∧ w'.cell? ⟨bZ, 1, none⟩ = some (u1) ∧ w'.cell? ⟨bZ, 2, none⟩ = some (u2) ∧ w'.cell? ⟨bl, ol + k * 4, none⟩ = some (.int .u32 ak.d0) ∧ w'.cell? ⟨bl, ol + k * 4 + 1, none⟩ = some (.int .u32 ak.d1) ∧ w'.cell? ⟨bl, ol + k * 4 + 2, none⟩ = some (.int .u32 ak.d2) ∧ w'.cell? ⟨bl, ol + k * 4 + 3, none⟩ = some (.int .u32 ak.d3) ∧ w'.cell? ⟨bl, ol + i * 4, none⟩ = some (.int .u32 ai.d0) ∧ w'.cell? ⟨bl, ol + i * 4 + 1, none⟩ = some (.int .u32 ai.d1) ∧ w'.cell? ⟨bl, ol + i * 4 + 2, none⟩ = some (.int .u32 ai.d2) ∧ w'.cell? ⟨bl, ol + i * 4 + 3, none⟩ = some (.int .u32 ai.d3) := by
  obtain ⟨f0, f1, f2, f3, f4, f5, f6, f7, f8, f9, f10, f11, f12, f13⟩ := f
  exact ⟨by rw [h.cell (p := ⟨_, _, none⟩) g0]; exact f0, by rw [h.cell (p := ⟨_, _, none⟩) g0]; exact f1, by rw [h.cell (p := ⟨_, _, none⟩) g0]; exact f2, by rw [h.cell (p := ⟨_, _, none⟩) g1]; exact f3, by rw [h.cell (p := ⟨_, _, none⟩) g1]; exact f4, by rw [h.cell (p := ⟨_, _, none⟩) g1]; exact f5, by rw [h.cell (p := ⟨_, _, none⟩) g2]; exact f6, by rw [h.cell (p := ⟨_, _, none⟩) g2]; exact f7, by rw [h.cell (p := ⟨_, _, none⟩) g2]; exact f8, by rw [h.cell (p := ⟨_, _, none⟩) g2]; exact f9, by rw [h.cell (p := ⟨_, _, none⟩) g2]; exact f10, by rw [h.cell (p := ⟨_, _, none⟩) g2]; exact f11, by rw [h.cell (p := ⟨_, _, none⟩) g2]; exact f12, by rw [h.cell (p := ⟨_, _, none⟩) g2]; exact f13⟩
theorem reach_key (s msg : D4) (i : Nat) : reachV msg (signL (seedK s i) msg) = keyK s i := by
  rw [reachV, if_pos (signL_len _ _), reach_sign]; rfl
/-- A signature that holds at another place: a clash is shown, or both places have one key. -/
theorem place_clash {s msg : D4} {h i k : Nat} (hk : k < 2 ^ h) (hc : check6 (pubK s h) msg (k : Int) (signL (seedK s i) msg) (pathK s h i) = true) (hne : sameD (keyK s k) (keyK s i) = false) : clash6 k (keyK s i) (pathK s h i) (keyK s k) (pathK s h k) = true := by
  have e1 := ((check6_iff _ _ _ _ _).mp hc).2.2.2.2
  rw [Int.toNat_natCast, reach_key] at e1
  have e2 := climb_key s h k hk
  refine clash6_shown _ _ k _ _ (by rw [pathK_len_eq, pathK_len_eq]) (e1.trans e2.symm) fun e => ?_
  rw [(sameD_iff _ _).mpr e.symm] at hne
  cases hne
theorem rkeys_row (s : D4) (h : Nat) (l : List D4) (N : Nat) (w : World) (hs : s.ok) (hh : h ≤ 4) (hl : keysL s h = l) (hN : l.length = N) (h0 : l ≠ []) :
    Calls Tryd.prog 23 #[.agg #[.int .u32 s.d0, .int .u32 s.d1, .int .u32 s.d2, .int .u32 s.d3], .int .i64 (h : Int)] w fun e w' => ∃ b o c, e = .returned (.slice (some ⟨b, o, none⟩) N c) ∧ RdL w' b o l ∧ Below w.heap.size w w' := by
  refine (rkeys_any s h l N w hs hh hl hN).mono ?_
  rintro e w' ⟨p, c, rfl, _, _, hrd, hB⟩
  obtain ⟨b, o, rfl, hr⟩ := hrd h0
  exact ⟨b, o, c, rfl, hr, hB⟩
set_option maxHeartbeats 8000000 in
set_option maxRecDepth 100000 in
theorem places_no (s msg : D4) (x y z : Int) (h i k : Nat) (w : World) (hs : s.ok) (hmo : msg.ok) (hx : 0 ≤ x) (hx2 : x < 256) (hy : 0 ≤ y) (hy2 : y < 256) (hz : 0 ≤ z) (hz2 : z < 256) (eh : 1 + x % 2 = (h : Int)) (ei : y % (2 * (h : Int)) = (i : Int)) (ek : z % (2 * (h : Int)) = (k : Int)) (_hh1 : 1 ≤ h) (_hh2 : h ≤ 2) (hh : h ≤ 4) (hi : i < 2 ^ h) (hk : k < 2 ^ h) (hc : check6 (pubK s h) msg (k : Int) (signL (seedK s i) msg) (pathK s h i) = false) (hT : TurnsOk w) :
    Calls Tryd.prog 9 #[.agg #[.int .u32 s.d0, .int .u32 s.d1, .int .u32 s.d2, .int .u32 s.d3], .agg #[.int .u8 x, .int .u8 y, .int .u8 z], .agg #[.int .u32 msg.d0, .int .u32 msg.d1, .int .u32 msg.d2, .int .u32 msg.d3]] w fun e w' => e = .returned (.bool true) ∧ Below w.heap.size w w' := by
  obtain ⟨v, hv⟩ : ∃ v, pubK s h = v := ⟨_, rfl⟩
  obtain ⟨L, hL⟩ : ∃ l, signL (seedK s i) msg = l := ⟨_, rfl⟩
  obtain ⟨Q, hQ⟩ : ∃ l, pathK s h i = l := ⟨_, rfl⟩
  obtain ⟨N, hN⟩ : ∃ N, Q.length = N := ⟨_, rfl⟩
  have HLO := Lib.hid (show allD4 L by rw [← hL]; exact signL_ok msg (seedK_ok _ _))
  have HLN := Lib.hid (show 35 = L.length by rw [← hL]; exact (signL_len _ _).symm)
  have HQO := Lib.hid (show allD4 Q by rw [← hQ]; exact pathK_ok s h i hi)
  have HC := Lib.hid (show check6 v msg (i : Int) L Q = true by rw [← hv, ← hL, ← hQ]; exact check6_sign s msg h i hh hi)
  have HD := Lib.hid (show check6 v msg (k : Int) L Q = false by rw [← hv, ← hL, ← hQ]; exact hc)
  have HV := Lib.hid hv
  have HL := Lib.hid hL
  have HQ := Lib.hid hQ
  have HN := Lib.hid hN
  have HI := Lib.hid hi
  have HK := Lib.hid hk
  clear hv hL hQ hN hi hk hc
  obtain ⟨w1, hw1⟩ : ∃ w', w.alloc (.cells #[.int .u32 s.d0, .int .u32 s.d1, .int .u32 s.d2, .int .u32 s.d3] 24) = w' := ⟨_, rfl⟩
  have hS : Box 24 w.heap.size [.int .u32 s.d0, .int .u32 s.d1, .int .u32 s.d2, .int .u32 s.d3] w1 := by rw [← hw1]; exact Box.new 24 [.int .u32 s.d0, .int .u32 s.d1, .int .u32 s.d2, .int .u32 s.d3] w
  have hD : Below w.heap.size w w1 := by rw [← hw1]; exact (Below.refl _ _).alloc (Nat.le_refl _) _
  have hB := hD
  replace hT := hT.below hD
  clear hD
  obtain ⟨w2, hw2⟩ : ∃ w', w1.alloc (.cells #[.int .u8 x, .int .u8 y, .int .u8 z] 54) = w' := ⟨_, rfl⟩
  have hA : Box 54 w1.heap.size [.int .u8 x, .int .u8 y, .int .u8 z] w2 := by rw [← hw2]; exact Box.new 54 [.int .u8 x, .int .u8 y, .int .u8 z] w1
  have hD : Below w1.heap.size w1 w2 := by rw [← hw2]; exact (Below.refl _ _).alloc (Nat.le_refl _) _
  replace hS := hS.on hD
  replace hB := hB.trans (hD.mono hB.size)
  replace hT := hT.below hD
  clear hD
  obtain ⟨w3, hw3⟩ : ∃ w', w2.alloc (.cells #[.int .u32 msg.d0, .int .u32 msg.d1, .int .u32 msg.d2, .int .u32 msg.d3] 24) = w' := ⟨_, rfl⟩
  have hM : Box 24 w2.heap.size [.int .u32 msg.d0, .int .u32 msg.d1, .int .u32 msg.d2, .int .u32 msg.d3] w3 := by rw [← hw3]; exact Box.new 24 [.int .u32 msg.d0, .int .u32 msg.d1, .int .u32 msg.d2, .int .u32 msg.d3] w2
  have hD : Below w2.heap.size w2 w3 := by rw [← hw3]; exact (Below.refl _ _).alloc (Nat.le_refl _) _
  replace hS := hS.on hD
  replace hA := hA.on hD
  replace hB := hB.trans (hD.mono hB.size)
  replace hT := hT.below hD
  clear hD
  go_enter Tryd.func9, Tryd.ntmps9
  have chS0 := hS.cell (j := 0) (v := .int .u32 s.d0) rfl
  have chS1 := hS.cell (j := 1) (v := .int .u32 s.d1) rfl
  have chS2 := hS.cell (j := 2) (v := .int .u32 s.d2) rfl
  have chS3 := hS.cell (j := 3) (v := .int .u32 s.d3) rfl
  have chA0 := hA.cell (j := 0) (v := .int .u8 x) rfl
  have chA1 := hA.cell (j := 1) (v := .int .u8 y) rfl
  have chA2 := hA.cell (j := 2) (v := .int .u8 z) rfl
  have chM0 := hM.cell (j := 0) (v := .int .u32 msg.d0) rfl
  have chM1 := hM.cell (j := 1) (v := .int .u32 msg.d1) rfl
  have chM2 := hM.cell (j := 2) (v := .int .u32 msg.d2) rfl
  have chM3 := hM.cell (j := 3) (v := .int .u32 msg.d3) rfl
  go_wp2_with fail
  clear hw1 hw2 hw3 chS0 chS1 chS2 chS3 chA0 chA1 chA2 chM0 chM1 chM2 chM3
  refine (awake6_any w3 hT).mono ?_
  rintro e w4 ⟨rfl, hD⟩
  replace hS := hS.on hD
  replace hA := hA.on hD
  replace hM := hM.on hD
  replace hB := hB.trans (hD.mono hB.size)
  replace hT := hT.below hD
  clear hD
  have chS0 := hS.cell (j := 0) (v := .int .u32 s.d0) rfl
  have chS1 := hS.cell (j := 1) (v := .int .u32 s.d1) rfl
  have chS2 := hS.cell (j := 2) (v := .int .u32 s.d2) rfl
  have chS3 := hS.cell (j := 3) (v := .int .u32 s.d3) rfl
  have chA0 := hA.cell (j := 0) (v := .int .u8 x) rfl
  have chA1 := hA.cell (j := 1) (v := .int .u8 y) rfl
  have chA2 := hA.cell (j := 2) (v := .int .u8 z) rfl
  have chM0 := hM.cell (j := 0) (v := .int .u32 msg.d0) rfl
  have chM1 := hM.cell (j := 1) (v := .int .u32 msg.d1) rfl
  have chM2 := hM.cell (j := 2) (v := .int .u32 msg.d2) rfl
  have chM3 := hM.cell (j := 3) (v := .int .u32 msg.d3) rfl
  go_wp2_with fail
  clear chS0 chS1 chS2 chS3 chA0 chA1 chA2 chM0 chM1 chM2 chM3
  refine (csign6_yes s msg h i L Q w4 hs hT hmo hh HI.out HL.out HQ.out N HN.out).mono ?_
  rintro e w5 ⟨g, p1, c1, rfl, hgB, hl1, hO1, hD⟩
  replace hS := hS.on hD
  replace hA := hA.on hD
  replace hM := hM.on hD
  replace hB := hB.trans (hD.mono hB.size)
  replace hT := hT.below hD
  clear hD
  have hq1 := hO1.use.2.1
  have hc1 := hO1.use.2.2.1
  have hm1 := hO1.use.2.2.2
  clear hO1 hgB
  obtain ⟨w6, hw6⟩ : ∃ w', w5.alloc (.cells #[.int .i64 (i : Int), .slice (some ⟨g, 0, none⟩) 35 35, .slice p1 N c1] 38) = w' := ⟨_, rfl⟩
  have hX : Box 38 w5.heap.size [.int .i64 (i : Int), .slice (some ⟨g, 0, none⟩) 35 35, .slice p1 N c1] w6 := by rw [← hw6]; exact Box.new 38 [.int .i64 (i : Int), .slice (some ⟨g, 0, none⟩) 35 35, .slice p1 N c1] w5
  have hD : Below w5.heap.size w5 w6 := by rw [← hw6]; exact (Below.refl _ _).alloc (Nat.le_refl _) _
  replace hS := hS.on hD
  replace hA := hA.on hD
  replace hM := hM.on hD
  replace hl1 := hl1.on hD
  replace hq1 := hq1.on hD
  replace hB := hB.trans (hD.mono hB.size)
  replace hT := hT.below hD
  clear hD
  have chS0 := hS.cell (j := 0) (v := .int .u32 s.d0) rfl
  have chS1 := hS.cell (j := 1) (v := .int .u32 s.d1) rfl
  have chS2 := hS.cell (j := 2) (v := .int .u32 s.d2) rfl
  have chS3 := hS.cell (j := 3) (v := .int .u32 s.d3) rfl
  have chA0 := hA.cell (j := 0) (v := .int .u8 x) rfl
  have chA1 := hA.cell (j := 1) (v := .int .u8 y) rfl
  have chA2 := hA.cell (j := 2) (v := .int .u8 z) rfl
  have chM0 := hM.cell (j := 0) (v := .int .u32 msg.d0) rfl
  have chM1 := hM.cell (j := 1) (v := .int .u32 msg.d1) rfl
  have chM2 := hM.cell (j := 2) (v := .int .u32 msg.d2) rfl
  have chM3 := hM.cell (j := 3) (v := .int .u32 msg.d3) rfl
  have chX0 := hX.cell (j := 0) (v := .int .i64 (i : Int)) rfl
  have chX1 := hX.cell (j := 1) (v := .slice (some ⟨g, 0, none⟩) 35 35) rfl
  have chX2 := hX.cell (j := 2) (v := .slice p1 N c1) rfl
  go_wp2_with fail
  clear hw6 chS0 chS1 chS2 chS3 chA0 chA1 chA2 chM0 chM1 chM2 chM3 chX0 chX1 chX2
  refine (cpub_nmy s v h w6 hs hh hT HV.out).mono ?_
  rintro e w7 ⟨rfl, hD⟩
  replace hS := hS.on hD
  replace hA := hA.on hD
  replace hM := hM.on hD
  replace hX := hX.on hD
  replace hl1 := hl1.on hD
  replace hq1 := hq1.on hD
  replace hB := hB.trans (hD.mono hB.size)
  replace hT := hT.below hD
  clear hD
  obtain ⟨w8, hw8⟩ : ∃ w', w7.alloc (.cells #[.int .u32 v.d0, .int .u32 v.d1, .int .u32 v.d2, .int .u32 v.d3] 24) = w' := ⟨_, rfl⟩
  have hP : Box 24 w7.heap.size [.int .u32 v.d0, .int .u32 v.d1, .int .u32 v.d2, .int .u32 v.d3] w8 := by rw [← hw8]; exact Box.new 24 [.int .u32 v.d0, .int .u32 v.d1, .int .u32 v.d2, .int .u32 v.d3] w7
  have hD : Below w7.heap.size w7 w8 := by rw [← hw8]; exact (Below.refl _ _).alloc (Nat.le_refl _) _
  replace hS := hS.on hD
  replace hA := hA.on hD
  replace hM := hM.on hD
  replace hX := hX.on hD
  replace hl1 := hl1.on hD
  replace hq1 := hq1.on hD
  replace hB := hB.trans (hD.mono hB.size)
  replace hT := hT.below hD
  clear hD
  have chS0 := hS.cell (j := 0) (v := .int .u32 s.d0) rfl
  have chS1 := hS.cell (j := 1) (v := .int .u32 s.d1) rfl
  have chS2 := hS.cell (j := 2) (v := .int .u32 s.d2) rfl
  have chS3 := hS.cell (j := 3) (v := .int .u32 s.d3) rfl
  have chA0 := hA.cell (j := 0) (v := .int .u8 x) rfl
  have chA1 := hA.cell (j := 1) (v := .int .u8 y) rfl
  have chA2 := hA.cell (j := 2) (v := .int .u8 z) rfl
  have chM0 := hM.cell (j := 0) (v := .int .u32 msg.d0) rfl
  have chM1 := hM.cell (j := 1) (v := .int .u32 msg.d1) rfl
  have chM2 := hM.cell (j := 2) (v := .int .u32 msg.d2) rfl
  have chM3 := hM.cell (j := 3) (v := .int .u32 msg.d3) rfl
  have chX0 := hX.cell (j := 0) (v := .int .i64 (i : Int)) rfl
  have chX1 := hX.cell (j := 1) (v := .slice (some ⟨g, 0, none⟩) 35 35) rfl
  have chX2 := hX.cell (j := 2) (v := .slice p1 N c1) rfl
  have chP0 := hP.cell (j := 0) (v := .int .u32 v.d0) rfl
  have chP1 := hP.cell (j := 1) (v := .int .u32 v.d1) rfl
  have chP2 := hP.cell (j := 2) (v := .int .u32 v.d2) rfl
  have chP3 := hP.cell (j := 3) (v := .int .u32 v.d3) rfl
  go_wp2_with fail
  clear hw8 chS0 chS1 chS2 chS3 chA0 chA1 chA2 chM0 chM1 chM2 chM3 chX0 chX1 chX2 chP0 chP1 chP2 chP3
  refine (ccheck6_any v msg (i : Int) L Q true (some ⟨g, 0, none⟩) p1 35 35 N c1 w8 hmo HLO.out HQO.out HLN.out HN.out.symm (rdS_some hl1) hq1 (Nat.le_of_eq HLN.out.symm) (by unfold maxLen; omega) hc1 hm1 hT HC.out).mono ?_
  rintro e w9 ⟨rfl, hD⟩
  replace hS := hS.on hD
  replace hA := hA.on hD
  replace hM := hM.on hD
  replace hX := hX.on hD
  replace hP := hP.on hD
  replace hl1 := hl1.on hD
  replace hq1 := hq1.on hD
  replace hB := hB.trans (hD.mono hB.size)
  replace hT := hT.below hD
  clear hD
  have x0 := hX.cell (j := 0) (v := .int .i64 (i : Int)) rfl
  have x1 := hX.cell (j := 1) (v := .slice (some ⟨g, 0, none⟩) 35 35) rfl
  have x2 := hX.cell (j := 2) (v := .slice p1 N c1) rfl
  obtain ⟨w10, hw10⟩ : ∃ w', w9.alloc (.cells #[.int .i64 (k : Int), .slice (some ⟨g, 0, none⟩) 35 35, .slice p1 N c1] 38) = w' := ⟨_, rfl⟩
  have hY : Box 38 w9.heap.size [.int .i64 (k : Int), .slice (some ⟨g, 0, none⟩) 35 35, .slice p1 N c1] w10 := by rw [← hw10]; exact Box.new 38 [.int .i64 (k : Int), .slice (some ⟨g, 0, none⟩) 35 35, .slice p1 N c1] w9
  have hD : Below w9.heap.size w9 w10 := by rw [← hw10]; exact (Below.refl _ _).alloc (Nat.le_refl _) _
  replace hS := hS.on hD
  replace hA := hA.on hD
  replace hM := hM.on hD
  replace hX := hX.on hD
  replace hP := hP.on hD
  replace hl1 := hl1.on hD
  replace hq1 := hq1.on hD
  replace hB := hB.trans (hD.mono hB.size)
  replace hT := hT.below hD
  clear hD
  have chS0 := hS.cell (j := 0) (v := .int .u32 s.d0) rfl
  have chS1 := hS.cell (j := 1) (v := .int .u32 s.d1) rfl
  have chS2 := hS.cell (j := 2) (v := .int .u32 s.d2) rfl
  have chS3 := hS.cell (j := 3) (v := .int .u32 s.d3) rfl
  have chA0 := hA.cell (j := 0) (v := .int .u8 x) rfl
  have chA1 := hA.cell (j := 1) (v := .int .u8 y) rfl
  have chA2 := hA.cell (j := 2) (v := .int .u8 z) rfl
  have chM0 := hM.cell (j := 0) (v := .int .u32 msg.d0) rfl
  have chM1 := hM.cell (j := 1) (v := .int .u32 msg.d1) rfl
  have chM2 := hM.cell (j := 2) (v := .int .u32 msg.d2) rfl
  have chM3 := hM.cell (j := 3) (v := .int .u32 msg.d3) rfl
  have chX0 := hX.cell (j := 0) (v := .int .i64 (i : Int)) rfl
  have chX1 := hX.cell (j := 1) (v := .slice (some ⟨g, 0, none⟩) 35 35) rfl
  have chX2 := hX.cell (j := 2) (v := .slice p1 N c1) rfl
  have chP0 := hP.cell (j := 0) (v := .int .u32 v.d0) rfl
  have chP1 := hP.cell (j := 1) (v := .int .u32 v.d1) rfl
  have chP2 := hP.cell (j := 2) (v := .int .u32 v.d2) rfl
  have chP3 := hP.cell (j := 3) (v := .int .u32 v.d3) rfl
  have chY0 := hY.cell (j := 0) (v := .int .i64 (k : Int)) rfl
  have chY1 := hY.cell (j := 1) (v := .slice (some ⟨g, 0, none⟩) 35 35) rfl
  have chY2 := hY.cell (j := 2) (v := .slice p1 N c1) rfl
  go_wp2_with fail
  clear hw10 x0 x1 x2 chS0 chS1 chS2 chS3 chA0 chA1 chA2 chM0 chM1 chM2 chM3 chX0 chX1 chX2 chP0 chP1 chP2 chP3 chY0 chY1 chY2
  refine (ccheck6_any v msg (k : Int) L Q false (some ⟨g, 0, none⟩) p1 35 35 N c1 w10 hmo HLO.out HQO.out HLN.out HN.out.symm (rdS_some hl1) hq1 (Nat.le_of_eq HLN.out.symm) (by unfold maxLen; omega) hc1 hm1 hT HD.out).mono ?_
  rintro e w11 ⟨rfl, hD⟩
  replace hS := hS.on hD
  replace hA := hA.on hD
  replace hM := hM.on hD
  replace hX := hX.on hD
  replace hP := hP.on hD
  replace hY := hY.on hD
  replace hl1 := hl1.on hD
  replace hq1 := hq1.on hD
  replace hB := hB.trans (hD.mono hB.size)
  replace hT := hT.below hD
  clear hD
  go_wp2_with fail
  go_ret
  exact ⟨rfl, hB⟩
set_option maxHeartbeats 8000000 in
set_option maxRecDepth 100000 in
theorem places_same (s msg : D4) (x y z : Int) (h i k : Nat) (w : World) (hs : s.ok) (hmo : msg.ok) (hx : 0 ≤ x) (hx2 : x < 256) (hy : 0 ≤ y) (hy2 : y < 256) (hz : 0 ≤ z) (hz2 : z < 256) (eh : 1 + x % 2 = (h : Int)) (ei : y % (2 * (h : Int)) = (i : Int)) (ek : z % (2 * (h : Int)) = (k : Int)) (_hh1 : 1 ≤ h) (_hh2 : h ≤ 2) (hh : h ≤ 4) (hi : i < 2 ^ h) (hk : k < 2 ^ h) (hc : check6 (pubK s h) msg (k : Int) (signL (seedK s i) msg) (pathK s h i) = true) (hs2 : sameD (keyK s k) (keyK s i) = true) (hT : TurnsOk w) :
    Calls Tryd.prog 9 #[.agg #[.int .u32 s.d0, .int .u32 s.d1, .int .u32 s.d2, .int .u32 s.d3], .agg #[.int .u8 x, .int .u8 y, .int .u8 z], .agg #[.int .u32 msg.d0, .int .u32 msg.d1, .int .u32 msg.d2, .int .u32 msg.d3]] w fun e w' => e = .returned (.bool true) ∧ Below w.heap.size w w' := by
  obtain ⟨v, hv⟩ : ∃ v, pubK s h = v := ⟨_, rfl⟩
  obtain ⟨L, hL⟩ : ∃ l, signL (seedK s i) msg = l := ⟨_, rfl⟩
  obtain ⟨Q, hQ⟩ : ∃ l, pathK s h i = l := ⟨_, rfl⟩
  obtain ⟨N, hN⟩ : ∃ N, Q.length = N := ⟨_, rfl⟩
  have HLO := Lib.hid (show allD4 L by rw [← hL]; exact signL_ok msg (seedK_ok _ _))
  have HLN := Lib.hid (show 35 = L.length by rw [← hL]; exact (signL_len _ _).symm)
  have HQO := Lib.hid (show allD4 Q by rw [← hQ]; exact pathK_ok s h i hi)
  have HC := Lib.hid (show check6 v msg (i : Int) L Q = true by rw [← hv, ← hL, ← hQ]; exact check6_sign s msg h i hh hi)
  have HD := Lib.hid (show check6 v msg (k : Int) L Q = true by rw [← hv, ← hL, ← hQ]; exact hc)
  obtain ⟨L2, hL2⟩ : ∃ l, signL (seedK s k) msg = l := ⟨_, rfl⟩
  obtain ⟨Q2, hQ2⟩ : ∃ l, pathK s h k = l := ⟨_, rfl⟩
  have hN2 : Q2.length = N := by rw [← hQ2, ← hN, ← hQ, pathK_len_eq, pathK_len_eq]
  have HQP := Lib.hid (show allD4 Q2 by rw [← hQ2]; exact pathK_ok s h k hk)
  obtain ⟨l, hl⟩ : ∃ l, keysL s h = l := ⟨_, rfl⟩
  obtain ⟨NL, hNL⟩ : ∃ n, l.length = n := ⟨_, rfl⟩
  have hNe : 2 ^ h = NL := by rw [← hNL, ← hl, keysL_len]
  obtain ⟨ai, hai⟩ : ∃ a, keyK s i = a := ⟨_, rfl⟩
  obtain ⟨ak, hak⟩ : ∃ a, keyK s k = a := ⟨_, rfl⟩
  have HGI := Lib.hid (show l.getD i zeroD = ai by rw [List.getD_eq_getElem?_getD, ← hl, keysL_at s h i hi, Option.getD_some]; exact hai)
  have HGK := Lib.hid (show l.getD k zeroD = ak by rw [List.getD_eq_getElem?_getD, ← hl, keysL_at s h k hk, Option.getD_some]; exact hak)
  have HAI := Lib.hid (show ai.ok by rw [← hai]; exact keyK_ok s i)
  have HAK := Lib.hid (show ak.ok by rw [← hak]; exact keyK_ok s k)
  have hii : (i : Int) < (NL : Int) := by have := hNe; omega
  have hkk : (k : Int) < (NL : Int) := by have := hNe; omega
  have hi0 : (0 : Int) ≤ (i : Int) := by omega
  have hk0 : (0 : Int) ≤ (k : Int) := by omega
  have HLL := Lib.hid (show l ≠ [] by intro e; rw [e] at hNL; simp at hNL; omega)
  have hkI : (k : Int) < 9223372036854775808 := by have := pow_le16 (Nat.le_refl h) hh; omega
  have HL2 := Lib.hid hL2
  have HQ2 := Lib.hid hQ2
  have HN2 := Lib.hid hN2
  have HLK := Lib.hid hl
  have HNL := Lib.hid hNL
  have HV := Lib.hid hv
  have HL := Lib.hid hL
  have HQ := Lib.hid hQ
  have HN := Lib.hid hN
  have HI := Lib.hid hi
  have HK := Lib.hid hk
  have HCL : Hid (sameD ak ai = false → clash6 k ai Q ak Q2 = true) := by show _ → _; rw [← hai, ← hak, ← hQ, ← hQ2]; exact place_clash hk hc
  rw [hak, hai] at hs2
  have hEq := eqD_run ak ai
  rw [hs2] at hEq
  have HS2 := Lib.hid hs2
  clear hL2 hQ2 hN2 hl hNL hNe hai hak hs2
  clear hv hL hQ hN hi hk hc
  obtain ⟨w1, hw1⟩ : ∃ w', w.alloc (.cells #[.int .u32 s.d0, .int .u32 s.d1, .int .u32 s.d2, .int .u32 s.d3] 24) = w' := ⟨_, rfl⟩
  have hS : Box 24 w.heap.size [.int .u32 s.d0, .int .u32 s.d1, .int .u32 s.d2, .int .u32 s.d3] w1 := by rw [← hw1]; exact Box.new 24 [.int .u32 s.d0, .int .u32 s.d1, .int .u32 s.d2, .int .u32 s.d3] w
  have hD : Below w.heap.size w w1 := by rw [← hw1]; exact (Below.refl _ _).alloc (Nat.le_refl _) _
  have hB := hD
  replace hT := hT.below hD
  clear hD
  obtain ⟨w2, hw2⟩ : ∃ w', w1.alloc (.cells #[.int .u8 x, .int .u8 y, .int .u8 z] 54) = w' := ⟨_, rfl⟩
  have hA : Box 54 w1.heap.size [.int .u8 x, .int .u8 y, .int .u8 z] w2 := by rw [← hw2]; exact Box.new 54 [.int .u8 x, .int .u8 y, .int .u8 z] w1
  have hD : Below w1.heap.size w1 w2 := by rw [← hw2]; exact (Below.refl _ _).alloc (Nat.le_refl _) _
  replace hS := hS.on hD
  replace hB := hB.trans (hD.mono hB.size)
  replace hT := hT.below hD
  clear hD
  obtain ⟨w3, hw3⟩ : ∃ w', w2.alloc (.cells #[.int .u32 msg.d0, .int .u32 msg.d1, .int .u32 msg.d2, .int .u32 msg.d3] 24) = w' := ⟨_, rfl⟩
  have hM : Box 24 w2.heap.size [.int .u32 msg.d0, .int .u32 msg.d1, .int .u32 msg.d2, .int .u32 msg.d3] w3 := by rw [← hw3]; exact Box.new 24 [.int .u32 msg.d0, .int .u32 msg.d1, .int .u32 msg.d2, .int .u32 msg.d3] w2
  have hD : Below w2.heap.size w2 w3 := by rw [← hw3]; exact (Below.refl _ _).alloc (Nat.le_refl _) _
  replace hS := hS.on hD
  replace hA := hA.on hD
  replace hB := hB.trans (hD.mono hB.size)
  replace hT := hT.below hD
  clear hD
  go_enter Tryd.func9, Tryd.ntmps9
  have chS0 := hS.cell (j := 0) (v := .int .u32 s.d0) rfl
  have chS1 := hS.cell (j := 1) (v := .int .u32 s.d1) rfl
  have chS2 := hS.cell (j := 2) (v := .int .u32 s.d2) rfl
  have chS3 := hS.cell (j := 3) (v := .int .u32 s.d3) rfl
  have chA0 := hA.cell (j := 0) (v := .int .u8 x) rfl
  have chA1 := hA.cell (j := 1) (v := .int .u8 y) rfl
  have chA2 := hA.cell (j := 2) (v := .int .u8 z) rfl
  have chM0 := hM.cell (j := 0) (v := .int .u32 msg.d0) rfl
  have chM1 := hM.cell (j := 1) (v := .int .u32 msg.d1) rfl
  have chM2 := hM.cell (j := 2) (v := .int .u32 msg.d2) rfl
  have chM3 := hM.cell (j := 3) (v := .int .u32 msg.d3) rfl
  go_wp2_with fail
  clear hw1 hw2 hw3 chS0 chS1 chS2 chS3 chA0 chA1 chA2 chM0 chM1 chM2 chM3
  refine (awake6_any w3 hT).mono ?_
  rintro e w4 ⟨rfl, hD⟩
  replace hS := hS.on hD
  replace hA := hA.on hD
  replace hM := hM.on hD
  replace hB := hB.trans (hD.mono hB.size)
  replace hT := hT.below hD
  clear hD
  have chS0 := hS.cell (j := 0) (v := .int .u32 s.d0) rfl
  have chS1 := hS.cell (j := 1) (v := .int .u32 s.d1) rfl
  have chS2 := hS.cell (j := 2) (v := .int .u32 s.d2) rfl
  have chS3 := hS.cell (j := 3) (v := .int .u32 s.d3) rfl
  have chA0 := hA.cell (j := 0) (v := .int .u8 x) rfl
  have chA1 := hA.cell (j := 1) (v := .int .u8 y) rfl
  have chA2 := hA.cell (j := 2) (v := .int .u8 z) rfl
  have chM0 := hM.cell (j := 0) (v := .int .u32 msg.d0) rfl
  have chM1 := hM.cell (j := 1) (v := .int .u32 msg.d1) rfl
  have chM2 := hM.cell (j := 2) (v := .int .u32 msg.d2) rfl
  have chM3 := hM.cell (j := 3) (v := .int .u32 msg.d3) rfl
  go_wp2_with fail
  clear chS0 chS1 chS2 chS3 chA0 chA1 chA2 chM0 chM1 chM2 chM3
  refine (csign6_yes s msg h i L Q w4 hs hT hmo hh HI.out HL.out HQ.out N HN.out).mono ?_
  rintro e w5 ⟨g, p1, c1, rfl, hgB, hl1, hO1, hD⟩
  replace hS := hS.on hD
  replace hA := hA.on hD
  replace hM := hM.on hD
  replace hB := hB.trans (hD.mono hB.size)
  replace hT := hT.below hD
  clear hD
  have hq1 := hO1.use.2.1
  have hc1 := hO1.use.2.2.1
  have hm1 := hO1.use.2.2.2
  clear hO1 hgB
  obtain ⟨w6, hw6⟩ : ∃ w', w5.alloc (.cells #[.int .i64 (i : Int), .slice (some ⟨g, 0, none⟩) 35 35, .slice p1 N c1] 38) = w' := ⟨_, rfl⟩
  have hX : Box 38 w5.heap.size [.int .i64 (i : Int), .slice (some ⟨g, 0, none⟩) 35 35, .slice p1 N c1] w6 := by rw [← hw6]; exact Box.new 38 [.int .i64 (i : Int), .slice (some ⟨g, 0, none⟩) 35 35, .slice p1 N c1] w5
  have hD : Below w5.heap.size w5 w6 := by rw [← hw6]; exact (Below.refl _ _).alloc (Nat.le_refl _) _
  replace hS := hS.on hD
  replace hA := hA.on hD
  replace hM := hM.on hD
  replace hl1 := hl1.on hD
  replace hq1 := hq1.on hD
  replace hB := hB.trans (hD.mono hB.size)
  replace hT := hT.below hD
  clear hD
  have chS0 := hS.cell (j := 0) (v := .int .u32 s.d0) rfl
  have chS1 := hS.cell (j := 1) (v := .int .u32 s.d1) rfl
  have chS2 := hS.cell (j := 2) (v := .int .u32 s.d2) rfl
  have chS3 := hS.cell (j := 3) (v := .int .u32 s.d3) rfl
  have chA0 := hA.cell (j := 0) (v := .int .u8 x) rfl
  have chA1 := hA.cell (j := 1) (v := .int .u8 y) rfl
  have chA2 := hA.cell (j := 2) (v := .int .u8 z) rfl
  have chM0 := hM.cell (j := 0) (v := .int .u32 msg.d0) rfl
  have chM1 := hM.cell (j := 1) (v := .int .u32 msg.d1) rfl
  have chM2 := hM.cell (j := 2) (v := .int .u32 msg.d2) rfl
  have chM3 := hM.cell (j := 3) (v := .int .u32 msg.d3) rfl
  have chX0 := hX.cell (j := 0) (v := .int .i64 (i : Int)) rfl
  have chX1 := hX.cell (j := 1) (v := .slice (some ⟨g, 0, none⟩) 35 35) rfl
  have chX2 := hX.cell (j := 2) (v := .slice p1 N c1) rfl
  go_wp2_with fail
  clear hw6 chS0 chS1 chS2 chS3 chA0 chA1 chA2 chM0 chM1 chM2 chM3 chX0 chX1 chX2
  refine (cpub_nmy s v h w6 hs hh hT HV.out).mono ?_
  rintro e w7 ⟨rfl, hD⟩
  replace hS := hS.on hD
  replace hA := hA.on hD
  replace hM := hM.on hD
  replace hX := hX.on hD
  replace hl1 := hl1.on hD
  replace hq1 := hq1.on hD
  replace hB := hB.trans (hD.mono hB.size)
  replace hT := hT.below hD
  clear hD
  obtain ⟨w8, hw8⟩ : ∃ w', w7.alloc (.cells #[.int .u32 v.d0, .int .u32 v.d1, .int .u32 v.d2, .int .u32 v.d3] 24) = w' := ⟨_, rfl⟩
  have hP : Box 24 w7.heap.size [.int .u32 v.d0, .int .u32 v.d1, .int .u32 v.d2, .int .u32 v.d3] w8 := by rw [← hw8]; exact Box.new 24 [.int .u32 v.d0, .int .u32 v.d1, .int .u32 v.d2, .int .u32 v.d3] w7
  have hD : Below w7.heap.size w7 w8 := by rw [← hw8]; exact (Below.refl _ _).alloc (Nat.le_refl _) _
  replace hS := hS.on hD
  replace hA := hA.on hD
  replace hM := hM.on hD
  replace hX := hX.on hD
  replace hl1 := hl1.on hD
  replace hq1 := hq1.on hD
  replace hB := hB.trans (hD.mono hB.size)
  replace hT := hT.below hD
  clear hD
  have chS0 := hS.cell (j := 0) (v := .int .u32 s.d0) rfl
  have chS1 := hS.cell (j := 1) (v := .int .u32 s.d1) rfl
  have chS2 := hS.cell (j := 2) (v := .int .u32 s.d2) rfl
  have chS3 := hS.cell (j := 3) (v := .int .u32 s.d3) rfl
  have chA0 := hA.cell (j := 0) (v := .int .u8 x) rfl
  have chA1 := hA.cell (j := 1) (v := .int .u8 y) rfl
  have chA2 := hA.cell (j := 2) (v := .int .u8 z) rfl
  have chM0 := hM.cell (j := 0) (v := .int .u32 msg.d0) rfl
  have chM1 := hM.cell (j := 1) (v := .int .u32 msg.d1) rfl
  have chM2 := hM.cell (j := 2) (v := .int .u32 msg.d2) rfl
  have chM3 := hM.cell (j := 3) (v := .int .u32 msg.d3) rfl
  have chX0 := hX.cell (j := 0) (v := .int .i64 (i : Int)) rfl
  have chX1 := hX.cell (j := 1) (v := .slice (some ⟨g, 0, none⟩) 35 35) rfl
  have chX2 := hX.cell (j := 2) (v := .slice p1 N c1) rfl
  have chP0 := hP.cell (j := 0) (v := .int .u32 v.d0) rfl
  have chP1 := hP.cell (j := 1) (v := .int .u32 v.d1) rfl
  have chP2 := hP.cell (j := 2) (v := .int .u32 v.d2) rfl
  have chP3 := hP.cell (j := 3) (v := .int .u32 v.d3) rfl
  go_wp2_with fail
  clear hw8 chS0 chS1 chS2 chS3 chA0 chA1 chA2 chM0 chM1 chM2 chM3 chX0 chX1 chX2 chP0 chP1 chP2 chP3
  refine (ccheck6_any v msg (i : Int) L Q true (some ⟨g, 0, none⟩) p1 35 35 N c1 w8 hmo HLO.out HQO.out HLN.out HN.out.symm (rdS_some hl1) hq1 (Nat.le_of_eq HLN.out.symm) (by unfold maxLen; omega) hc1 hm1 hT HC.out).mono ?_
  rintro e w9 ⟨rfl, hD⟩
  replace hS := hS.on hD
  replace hA := hA.on hD
  replace hM := hM.on hD
  replace hX := hX.on hD
  replace hP := hP.on hD
  replace hl1 := hl1.on hD
  replace hq1 := hq1.on hD
  replace hB := hB.trans (hD.mono hB.size)
  replace hT := hT.below hD
  clear hD
  have x0 := hX.cell (j := 0) (v := .int .i64 (i : Int)) rfl
  have x1 := hX.cell (j := 1) (v := .slice (some ⟨g, 0, none⟩) 35 35) rfl
  have x2 := hX.cell (j := 2) (v := .slice p1 N c1) rfl
  obtain ⟨w10, hw10⟩ : ∃ w', w9.alloc (.cells #[.int .i64 (k : Int), .slice (some ⟨g, 0, none⟩) 35 35, .slice p1 N c1] 38) = w' := ⟨_, rfl⟩
  have hY : Box 38 w9.heap.size [.int .i64 (k : Int), .slice (some ⟨g, 0, none⟩) 35 35, .slice p1 N c1] w10 := by rw [← hw10]; exact Box.new 38 [.int .i64 (k : Int), .slice (some ⟨g, 0, none⟩) 35 35, .slice p1 N c1] w9
  have hD : Below w9.heap.size w9 w10 := by rw [← hw10]; exact (Below.refl _ _).alloc (Nat.le_refl _) _
  replace hS := hS.on hD
  replace hA := hA.on hD
  replace hM := hM.on hD
  replace hX := hX.on hD
  replace hP := hP.on hD
  replace hl1 := hl1.on hD
  replace hq1 := hq1.on hD
  replace hB := hB.trans (hD.mono hB.size)
  replace hT := hT.below hD
  clear hD
  have chS0 := hS.cell (j := 0) (v := .int .u32 s.d0) rfl
  have chS1 := hS.cell (j := 1) (v := .int .u32 s.d1) rfl
  have chS2 := hS.cell (j := 2) (v := .int .u32 s.d2) rfl
  have chS3 := hS.cell (j := 3) (v := .int .u32 s.d3) rfl
  have chA0 := hA.cell (j := 0) (v := .int .u8 x) rfl
  have chA1 := hA.cell (j := 1) (v := .int .u8 y) rfl
  have chA2 := hA.cell (j := 2) (v := .int .u8 z) rfl
  have chM0 := hM.cell (j := 0) (v := .int .u32 msg.d0) rfl
  have chM1 := hM.cell (j := 1) (v := .int .u32 msg.d1) rfl
  have chM2 := hM.cell (j := 2) (v := .int .u32 msg.d2) rfl
  have chM3 := hM.cell (j := 3) (v := .int .u32 msg.d3) rfl
  have chX0 := hX.cell (j := 0) (v := .int .i64 (i : Int)) rfl
  have chX1 := hX.cell (j := 1) (v := .slice (some ⟨g, 0, none⟩) 35 35) rfl
  have chX2 := hX.cell (j := 2) (v := .slice p1 N c1) rfl
  have chP0 := hP.cell (j := 0) (v := .int .u32 v.d0) rfl
  have chP1 := hP.cell (j := 1) (v := .int .u32 v.d1) rfl
  have chP2 := hP.cell (j := 2) (v := .int .u32 v.d2) rfl
  have chP3 := hP.cell (j := 3) (v := .int .u32 v.d3) rfl
  have chY0 := hY.cell (j := 0) (v := .int .i64 (k : Int)) rfl
  have chY1 := hY.cell (j := 1) (v := .slice (some ⟨g, 0, none⟩) 35 35) rfl
  have chY2 := hY.cell (j := 2) (v := .slice p1 N c1) rfl
  go_wp2_with fail
  clear hw10 x0 x1 x2 chS0 chS1 chS2 chS3 chA0 chA1 chA2 chM0 chM1 chM2 chM3 chX0 chX1 chX2 chP0 chP1 chP2 chP3 chY0 chY1 chY2
  refine (ccheck6_any v msg (k : Int) L Q true (some ⟨g, 0, none⟩) p1 35 35 N c1 w10 hmo HLO.out HQO.out HLN.out HN.out.symm (rdS_some hl1) hq1 (Nat.le_of_eq HLN.out.symm) (by unfold maxLen; omega) hc1 hm1 hT HD.out).mono ?_
  rintro e w11 ⟨rfl, hD⟩
  replace hS := hS.on hD
  replace hA := hA.on hD
  replace hM := hM.on hD
  replace hX := hX.on hD
  replace hP := hP.on hD
  replace hY := hY.on hD
  replace hl1 := hl1.on hD
  replace hq1 := hq1.on hD
  replace hB := hB.trans (hD.mono hB.size)
  replace hT := hT.below hD
  clear hD
  have chS0 := hS.cell (j := 0) (v := .int .u32 s.d0) rfl
  have chS1 := hS.cell (j := 1) (v := .int .u32 s.d1) rfl
  have chS2 := hS.cell (j := 2) (v := .int .u32 s.d2) rfl
  have chS3 := hS.cell (j := 3) (v := .int .u32 s.d3) rfl
  have chA0 := hA.cell (j := 0) (v := .int .u8 x) rfl
  have chA1 := hA.cell (j := 1) (v := .int .u8 y) rfl
  have chA2 := hA.cell (j := 2) (v := .int .u8 z) rfl
  have chM0 := hM.cell (j := 0) (v := .int .u32 msg.d0) rfl
  have chM1 := hM.cell (j := 1) (v := .int .u32 msg.d1) rfl
  have chM2 := hM.cell (j := 2) (v := .int .u32 msg.d2) rfl
  have chM3 := hM.cell (j := 3) (v := .int .u32 msg.d3) rfl
  have chX0 := hX.cell (j := 0) (v := .int .i64 (i : Int)) rfl
  have chX1 := hX.cell (j := 1) (v := .slice (some ⟨g, 0, none⟩) 35 35) rfl
  have chX2 := hX.cell (j := 2) (v := .slice p1 N c1) rfl
  have chP0 := hP.cell (j := 0) (v := .int .u32 v.d0) rfl
  have chP1 := hP.cell (j := 1) (v := .int .u32 v.d1) rfl
  have chP2 := hP.cell (j := 2) (v := .int .u32 v.d2) rfl
  have chP3 := hP.cell (j := 3) (v := .int .u32 v.d3) rfl
  have chY0 := hY.cell (j := 0) (v := .int .i64 (k : Int)) rfl
  have chY1 := hY.cell (j := 1) (v := .slice (some ⟨g, 0, none⟩) 35 35) rfl
  have chY2 := hY.cell (j := 2) (v := .slice p1 N c1) rfl
  go_wp2_with fail
  clear chS0 chS1 chS2 chS3 chA0 chA1 chA2 chM0 chM1 chM2 chM3 chX0 chX1 chX2 chP0 chP1 chP2 chP3 chY0 chY1 chY2
  refine (csign6_yes s msg h k L2 Q2 w11 hs hT hmo hh HK.out HL2.out HQ2.out N HN2.out).mono ?_
  rintro e w12 ⟨g2, p2, c2, rfl, hgB, hl2, hO1, hD⟩
  replace hS := hS.on hD
  replace hA := hA.on hD
  replace hM := hM.on hD
  replace hX := hX.on hD
  replace hP := hP.on hD
  replace hY := hY.on hD
  replace hl1 := hl1.on hD
  replace hq1 := hq1.on hD
  replace hB := hB.trans (hD.mono hB.size)
  replace hT := hT.below hD
  clear hD
  have hq2 := hO1.use.2.1
  have hc2 := hO1.use.2.2.1
  have hm2 := hO1.use.2.2.2
  clear hO1 hgB hl2
  obtain ⟨w13, hw13⟩ : ∃ w', w12.alloc (.cells #[.int .i64 (k : Int), .slice (some ⟨g2, 0, none⟩) 35 35, .slice p2 N c2] 38) = w' := ⟨_, rfl⟩
  have hZ : Box 38 w12.heap.size [.int .i64 (k : Int), .slice (some ⟨g2, 0, none⟩) 35 35, .slice p2 N c2] w13 := by rw [← hw13]; exact Box.new 38 [.int .i64 (k : Int), .slice (some ⟨g2, 0, none⟩) 35 35, .slice p2 N c2] w12
  have hD : Below w12.heap.size w12 w13 := by rw [← hw13]; exact (Below.refl _ _).alloc (Nat.le_refl _) _
  replace hS := hS.on hD
  replace hA := hA.on hD
  replace hM := hM.on hD
  replace hX := hX.on hD
  replace hP := hP.on hD
  replace hY := hY.on hD
  replace hl1 := hl1.on hD
  replace hq1 := hq1.on hD
  replace hq2 := hq2.on hD
  replace hB := hB.trans (hD.mono hB.size)
  replace hT := hT.below hD
  clear hD
  have chS0 := hS.cell (j := 0) (v := .int .u32 s.d0) rfl
  have chS1 := hS.cell (j := 1) (v := .int .u32 s.d1) rfl
  have chS2 := hS.cell (j := 2) (v := .int .u32 s.d2) rfl
  have chS3 := hS.cell (j := 3) (v := .int .u32 s.d3) rfl
  have chA0 := hA.cell (j := 0) (v := .int .u8 x) rfl
  have chA1 := hA.cell (j := 1) (v := .int .u8 y) rfl
  have chA2 := hA.cell (j := 2) (v := .int .u8 z) rfl
  have chM0 := hM.cell (j := 0) (v := .int .u32 msg.d0) rfl
  have chM1 := hM.cell (j := 1) (v := .int .u32 msg.d1) rfl
  have chM2 := hM.cell (j := 2) (v := .int .u32 msg.d2) rfl
  have chM3 := hM.cell (j := 3) (v := .int .u32 msg.d3) rfl
  have chX0 := hX.cell (j := 0) (v := .int .i64 (i : Int)) rfl
  have chX1 := hX.cell (j := 1) (v := .slice (some ⟨g, 0, none⟩) 35 35) rfl
  have chX2 := hX.cell (j := 2) (v := .slice p1 N c1) rfl
  have chP0 := hP.cell (j := 0) (v := .int .u32 v.d0) rfl
  have chP1 := hP.cell (j := 1) (v := .int .u32 v.d1) rfl
  have chP2 := hP.cell (j := 2) (v := .int .u32 v.d2) rfl
  have chP3 := hP.cell (j := 3) (v := .int .u32 v.d3) rfl
  have chY0 := hY.cell (j := 0) (v := .int .i64 (k : Int)) rfl
  have chY1 := hY.cell (j := 1) (v := .slice (some ⟨g, 0, none⟩) 35 35) rfl
  have chY2 := hY.cell (j := 2) (v := .slice p1 N c1) rfl
  have chZ0 := hZ.cell (j := 0) (v := .int .i64 (k : Int)) rfl
  have chZ1 := hZ.cell (j := 1) (v := .slice (some ⟨g2, 0, none⟩) 35 35) rfl
  have chZ2 := hZ.cell (j := 2) (v := .slice p2 N c2) rfl
  go_wp2_with fail
  clear hw13 chS0 chS1 chS2 chS3 chA0 chA1 chA2 chM0 chM1 chM2 chM3 chX0 chX1 chX2 chP0 chP1 chP2 chP3 chY0 chY1 chY2 chZ0 chZ1 chZ2
  refine (rkeys_row s h l NL w13 hs hh HLK.out HNL.out HLL.out).mono ?_
  rintro e w14 ⟨bl, ol, cl, rfl, hrl, hD⟩
  replace hS := hS.on hD
  replace hA := hA.on hD
  replace hM := hM.on hD
  replace hX := hX.on hD
  replace hP := hP.on hD
  replace hY := hY.on hD
  replace hZ := hZ.on hD
  replace hl1 := hl1.on hD
  replace hq1 := hq1.on hD
  replace hq2 := hq2.on hD
  replace hB := hB.trans (hD.mono hB.size)
  replace hT := hT.below hD
  clear hD
  have HS0 : Hid (w14.drew.cell? ⟨w9.heap.size, 0, none⟩ = some (.int .i64 (k : Int)) ∧ w14.drew.cell? ⟨w9.heap.size, 1, none⟩ = some (.slice (some ⟨g, 0, none⟩) 35 35) ∧ w14.drew.cell? ⟨w9.heap.size, 2, none⟩ = some (.slice p1 N c1) ∧ w14.drew.cell? ⟨w12.heap.size, 0, none⟩ = some (.int .i64 (k : Int)) ∧ w14.drew.cell? ⟨w12.heap.size, 1, none⟩ = some (.slice (some ⟨g2, 0, none⟩) 35 35) ∧ w14.drew.cell? ⟨w12.heap.size, 2, none⟩ = some (.slice p2 N c2) ∧ w14.drew.cell? ⟨bl, ol + k * 4, none⟩ = some (.int .u32 ak.d0) ∧ w14.drew.cell? ⟨bl, ol + k * 4 + 1, none⟩ = some (.int .u32 ak.d1) ∧ w14.drew.cell? ⟨bl, ol + k * 4 + 2, none⟩ = some (.int .u32 ak.d2) ∧ w14.drew.cell? ⟨bl, ol + k * 4 + 3, none⟩ = some (.int .u32 ak.d3) ∧ w14.drew.cell? ⟨bl, ol + i * 4, none⟩ = some (.int .u32 ai.d0) ∧ w14.drew.cell? ⟨bl, ol + i * 4 + 1, none⟩ = some (.int .u32 ai.d1) ∧ w14.drew.cell? ⟨bl, ol + i * 4 + 2, none⟩ = some (.int .u32 ai.d2) ∧ w14.drew.cell? ⟨bl, ol + i * 4 + 3, none⟩ = some (.int .u32 ai.d3)) := by
    have k1 := hrl.2 k (by have := HNL.out; omega)
    have k2 := hrl.2 i (by have := HNL.out; omega)
    rw [HGK.out] at k1; rw [HGI.out] at k2
    exact ⟨hY.cell rfl, hY.cell rfl, hY.cell rfl, hZ.cell rfl, hZ.cell rfl, hZ.cell rfl, k1.1, k1.2.1, k1.2.2.1, k1.2.2.2, k2.1, k2.2.1, k2.2.2.1, k2.2.2.2⟩
  have g0 : w9.heap.size < w14.drew.heap.size := hY.lt
  have g1 : w12.heap.size < w14.drew.heap.size := hZ.lt
  have g3 : bl < w14.drew.heap.size := hrl.1
  replace hB : Below w.heap.size w w14.drew := hB.drew
  have hq3 : RdS w14.drew p1 Q := hq1
  have hq4 : RdS w14.drew p2 Q2 := hq2
  have hCur : Below w14.drew.heap.size w14.drew w14.drew := Below.refl _ _
  have hszB := hB.size
  clear hS hA hM hX hP hY hZ hl1 hq1 hq2 hT hrl
  obtain ⟨q0, q1, q2, q3, q4, q5, q6, q7, q8, q9, q10, q11, q12, q13⟩ := HS0.out
  go_wp2_with fail
  go_region
  all_goals
    go_wp2_with fail
    go_ret
    exact ⟨rfl, hB⟩
set_option maxHeartbeats 8000000 in
set_option maxRecDepth 100000 in
theorem places_else (s msg : D4) (x y z : Int) (h i k : Nat) (w : World) (hs : s.ok) (hmo : msg.ok) (hx : 0 ≤ x) (hx2 : x < 256) (hy : 0 ≤ y) (hy2 : y < 256) (hz : 0 ≤ z) (hz2 : z < 256) (eh : 1 + x % 2 = (h : Int)) (ei : y % (2 * (h : Int)) = (i : Int)) (ek : z % (2 * (h : Int)) = (k : Int)) (_hh1 : 1 ≤ h) (_hh2 : h ≤ 2) (hh : h ≤ 4) (hi : i < 2 ^ h) (hk : k < 2 ^ h) (hc : check6 (pubK s h) msg (k : Int) (signL (seedK s i) msg) (pathK s h i) = true) (hs2 : sameD (keyK s k) (keyK s i) = false) (hT : TurnsOk w) :
    Calls Tryd.prog 9 #[.agg #[.int .u32 s.d0, .int .u32 s.d1, .int .u32 s.d2, .int .u32 s.d3], .agg #[.int .u8 x, .int .u8 y, .int .u8 z], .agg #[.int .u32 msg.d0, .int .u32 msg.d1, .int .u32 msg.d2, .int .u32 msg.d3]] w fun e w' => e = .returned (.bool true) ∧ Below w.heap.size w w' := by
  obtain ⟨v, hv⟩ : ∃ v, pubK s h = v := ⟨_, rfl⟩
  obtain ⟨L, hL⟩ : ∃ l, signL (seedK s i) msg = l := ⟨_, rfl⟩
  obtain ⟨Q, hQ⟩ : ∃ l, pathK s h i = l := ⟨_, rfl⟩
  obtain ⟨N, hN⟩ : ∃ N, Q.length = N := ⟨_, rfl⟩
  have HLO := Lib.hid (show allD4 L by rw [← hL]; exact signL_ok msg (seedK_ok _ _))
  have HLN := Lib.hid (show 35 = L.length by rw [← hL]; exact (signL_len _ _).symm)
  have HQO := Lib.hid (show allD4 Q by rw [← hQ]; exact pathK_ok s h i hi)
  have HC := Lib.hid (show check6 v msg (i : Int) L Q = true by rw [← hv, ← hL, ← hQ]; exact check6_sign s msg h i hh hi)
  have HD := Lib.hid (show check6 v msg (k : Int) L Q = true by rw [← hv, ← hL, ← hQ]; exact hc)
  obtain ⟨L2, hL2⟩ : ∃ l, signL (seedK s k) msg = l := ⟨_, rfl⟩
  obtain ⟨Q2, hQ2⟩ : ∃ l, pathK s h k = l := ⟨_, rfl⟩
  have hN2 : Q2.length = N := by rw [← hQ2, ← hN, ← hQ, pathK_len_eq, pathK_len_eq]
  have HQP := Lib.hid (show allD4 Q2 by rw [← hQ2]; exact pathK_ok s h k hk)
  obtain ⟨l, hl⟩ : ∃ l, keysL s h = l := ⟨_, rfl⟩
  obtain ⟨NL, hNL⟩ : ∃ n, l.length = n := ⟨_, rfl⟩
  have hNe : 2 ^ h = NL := by rw [← hNL, ← hl, keysL_len]
  obtain ⟨ai, hai⟩ : ∃ a, keyK s i = a := ⟨_, rfl⟩
  obtain ⟨ak, hak⟩ : ∃ a, keyK s k = a := ⟨_, rfl⟩
  have HGI := Lib.hid (show l.getD i zeroD = ai by rw [List.getD_eq_getElem?_getD, ← hl, keysL_at s h i hi, Option.getD_some]; exact hai)
  have HGK := Lib.hid (show l.getD k zeroD = ak by rw [List.getD_eq_getElem?_getD, ← hl, keysL_at s h k hk, Option.getD_some]; exact hak)
  have HAI := Lib.hid (show ai.ok by rw [← hai]; exact keyK_ok s i)
  have HAK := Lib.hid (show ak.ok by rw [← hak]; exact keyK_ok s k)
  have hii : (i : Int) < (NL : Int) := by have := hNe; omega
  have hkk : (k : Int) < (NL : Int) := by have := hNe; omega
  have hi0 : (0 : Int) ≤ (i : Int) := by omega
  have hk0 : (0 : Int) ≤ (k : Int) := by omega
  have HLL := Lib.hid (show l ≠ [] by intro e; rw [e] at hNL; simp at hNL; omega)
  have hkI : (k : Int) < 9223372036854775808 := by have := pow_le16 (Nat.le_refl h) hh; omega
  have HL2 := Lib.hid hL2
  have HQ2 := Lib.hid hQ2
  have HN2 := Lib.hid hN2
  have HLK := Lib.hid hl
  have HNL := Lib.hid hNL
  have HV := Lib.hid hv
  have HL := Lib.hid hL
  have HQ := Lib.hid hQ
  have HN := Lib.hid hN
  have HI := Lib.hid hi
  have HK := Lib.hid hk
  have HCL : Hid (sameD ak ai = false → clash6 k ai Q ak Q2 = true) := by show _ → _; rw [← hai, ← hak, ← hQ, ← hQ2]; exact place_clash hk hc
  rw [hak, hai] at hs2
  have hEq := eqD_run ak ai
  rw [hs2] at hEq
  have HS2 := Lib.hid hs2
  clear hL2 hQ2 hN2 hl hNL hNe hai hak hs2
  clear hv hL hQ hN hi hk hc
  obtain ⟨w1, hw1⟩ : ∃ w', w.alloc (.cells #[.int .u32 s.d0, .int .u32 s.d1, .int .u32 s.d2, .int .u32 s.d3] 24) = w' := ⟨_, rfl⟩
  have hS : Box 24 w.heap.size [.int .u32 s.d0, .int .u32 s.d1, .int .u32 s.d2, .int .u32 s.d3] w1 := by rw [← hw1]; exact Box.new 24 [.int .u32 s.d0, .int .u32 s.d1, .int .u32 s.d2, .int .u32 s.d3] w
  have hD : Below w.heap.size w w1 := by rw [← hw1]; exact (Below.refl _ _).alloc (Nat.le_refl _) _
  have hB := hD
  replace hT := hT.below hD
  clear hD
  obtain ⟨w2, hw2⟩ : ∃ w', w1.alloc (.cells #[.int .u8 x, .int .u8 y, .int .u8 z] 54) = w' := ⟨_, rfl⟩
  have hA : Box 54 w1.heap.size [.int .u8 x, .int .u8 y, .int .u8 z] w2 := by rw [← hw2]; exact Box.new 54 [.int .u8 x, .int .u8 y, .int .u8 z] w1
  have hD : Below w1.heap.size w1 w2 := by rw [← hw2]; exact (Below.refl _ _).alloc (Nat.le_refl _) _
  replace hS := hS.on hD
  replace hB := hB.trans (hD.mono hB.size)
  replace hT := hT.below hD
  clear hD
  obtain ⟨w3, hw3⟩ : ∃ w', w2.alloc (.cells #[.int .u32 msg.d0, .int .u32 msg.d1, .int .u32 msg.d2, .int .u32 msg.d3] 24) = w' := ⟨_, rfl⟩
  have hM : Box 24 w2.heap.size [.int .u32 msg.d0, .int .u32 msg.d1, .int .u32 msg.d2, .int .u32 msg.d3] w3 := by rw [← hw3]; exact Box.new 24 [.int .u32 msg.d0, .int .u32 msg.d1, .int .u32 msg.d2, .int .u32 msg.d3] w2
  have hD : Below w2.heap.size w2 w3 := by rw [← hw3]; exact (Below.refl _ _).alloc (Nat.le_refl _) _
  replace hS := hS.on hD
  replace hA := hA.on hD
  replace hB := hB.trans (hD.mono hB.size)
  replace hT := hT.below hD
  clear hD
  go_enter Tryd.func9, Tryd.ntmps9
  have chS0 := hS.cell (j := 0) (v := .int .u32 s.d0) rfl
  have chS1 := hS.cell (j := 1) (v := .int .u32 s.d1) rfl
  have chS2 := hS.cell (j := 2) (v := .int .u32 s.d2) rfl
  have chS3 := hS.cell (j := 3) (v := .int .u32 s.d3) rfl
  have chA0 := hA.cell (j := 0) (v := .int .u8 x) rfl
  have chA1 := hA.cell (j := 1) (v := .int .u8 y) rfl
  have chA2 := hA.cell (j := 2) (v := .int .u8 z) rfl
  have chM0 := hM.cell (j := 0) (v := .int .u32 msg.d0) rfl
  have chM1 := hM.cell (j := 1) (v := .int .u32 msg.d1) rfl
  have chM2 := hM.cell (j := 2) (v := .int .u32 msg.d2) rfl
  have chM3 := hM.cell (j := 3) (v := .int .u32 msg.d3) rfl
  go_wp2_with fail
  clear hw1 hw2 hw3 chS0 chS1 chS2 chS3 chA0 chA1 chA2 chM0 chM1 chM2 chM3
  refine (awake6_any w3 hT).mono ?_
  rintro e w4 ⟨rfl, hD⟩
  replace hS := hS.on hD
  replace hA := hA.on hD
  replace hM := hM.on hD
  replace hB := hB.trans (hD.mono hB.size)
  replace hT := hT.below hD
  clear hD
  have chS0 := hS.cell (j := 0) (v := .int .u32 s.d0) rfl
  have chS1 := hS.cell (j := 1) (v := .int .u32 s.d1) rfl
  have chS2 := hS.cell (j := 2) (v := .int .u32 s.d2) rfl
  have chS3 := hS.cell (j := 3) (v := .int .u32 s.d3) rfl
  have chA0 := hA.cell (j := 0) (v := .int .u8 x) rfl
  have chA1 := hA.cell (j := 1) (v := .int .u8 y) rfl
  have chA2 := hA.cell (j := 2) (v := .int .u8 z) rfl
  have chM0 := hM.cell (j := 0) (v := .int .u32 msg.d0) rfl
  have chM1 := hM.cell (j := 1) (v := .int .u32 msg.d1) rfl
  have chM2 := hM.cell (j := 2) (v := .int .u32 msg.d2) rfl
  have chM3 := hM.cell (j := 3) (v := .int .u32 msg.d3) rfl
  go_wp2_with fail
  clear chS0 chS1 chS2 chS3 chA0 chA1 chA2 chM0 chM1 chM2 chM3
  refine (csign6_yes s msg h i L Q w4 hs hT hmo hh HI.out HL.out HQ.out N HN.out).mono ?_
  rintro e w5 ⟨g, p1, c1, rfl, hgB, hl1, hO1, hD⟩
  replace hS := hS.on hD
  replace hA := hA.on hD
  replace hM := hM.on hD
  replace hB := hB.trans (hD.mono hB.size)
  replace hT := hT.below hD
  clear hD
  have hq1 := hO1.use.2.1
  have hc1 := hO1.use.2.2.1
  have hm1 := hO1.use.2.2.2
  clear hO1 hgB
  obtain ⟨w6, hw6⟩ : ∃ w', w5.alloc (.cells #[.int .i64 (i : Int), .slice (some ⟨g, 0, none⟩) 35 35, .slice p1 N c1] 38) = w' := ⟨_, rfl⟩
  have hX : Box 38 w5.heap.size [.int .i64 (i : Int), .slice (some ⟨g, 0, none⟩) 35 35, .slice p1 N c1] w6 := by rw [← hw6]; exact Box.new 38 [.int .i64 (i : Int), .slice (some ⟨g, 0, none⟩) 35 35, .slice p1 N c1] w5
  have hD : Below w5.heap.size w5 w6 := by rw [← hw6]; exact (Below.refl _ _).alloc (Nat.le_refl _) _
  replace hS := hS.on hD
  replace hA := hA.on hD
  replace hM := hM.on hD
  replace hl1 := hl1.on hD
  replace hq1 := hq1.on hD
  replace hB := hB.trans (hD.mono hB.size)
  replace hT := hT.below hD
  clear hD
  have chS0 := hS.cell (j := 0) (v := .int .u32 s.d0) rfl
  have chS1 := hS.cell (j := 1) (v := .int .u32 s.d1) rfl
  have chS2 := hS.cell (j := 2) (v := .int .u32 s.d2) rfl
  have chS3 := hS.cell (j := 3) (v := .int .u32 s.d3) rfl
  have chA0 := hA.cell (j := 0) (v := .int .u8 x) rfl
  have chA1 := hA.cell (j := 1) (v := .int .u8 y) rfl
  have chA2 := hA.cell (j := 2) (v := .int .u8 z) rfl
  have chM0 := hM.cell (j := 0) (v := .int .u32 msg.d0) rfl
  have chM1 := hM.cell (j := 1) (v := .int .u32 msg.d1) rfl
  have chM2 := hM.cell (j := 2) (v := .int .u32 msg.d2) rfl
  have chM3 := hM.cell (j := 3) (v := .int .u32 msg.d3) rfl
  have chX0 := hX.cell (j := 0) (v := .int .i64 (i : Int)) rfl
  have chX1 := hX.cell (j := 1) (v := .slice (some ⟨g, 0, none⟩) 35 35) rfl
  have chX2 := hX.cell (j := 2) (v := .slice p1 N c1) rfl
  go_wp2_with fail
  clear hw6 chS0 chS1 chS2 chS3 chA0 chA1 chA2 chM0 chM1 chM2 chM3 chX0 chX1 chX2
  refine (cpub_nmy s v h w6 hs hh hT HV.out).mono ?_
  rintro e w7 ⟨rfl, hD⟩
  replace hS := hS.on hD
  replace hA := hA.on hD
  replace hM := hM.on hD
  replace hX := hX.on hD
  replace hl1 := hl1.on hD
  replace hq1 := hq1.on hD
  replace hB := hB.trans (hD.mono hB.size)
  replace hT := hT.below hD
  clear hD
  obtain ⟨w8, hw8⟩ : ∃ w', w7.alloc (.cells #[.int .u32 v.d0, .int .u32 v.d1, .int .u32 v.d2, .int .u32 v.d3] 24) = w' := ⟨_, rfl⟩
  have hP : Box 24 w7.heap.size [.int .u32 v.d0, .int .u32 v.d1, .int .u32 v.d2, .int .u32 v.d3] w8 := by rw [← hw8]; exact Box.new 24 [.int .u32 v.d0, .int .u32 v.d1, .int .u32 v.d2, .int .u32 v.d3] w7
  have hD : Below w7.heap.size w7 w8 := by rw [← hw8]; exact (Below.refl _ _).alloc (Nat.le_refl _) _
  replace hS := hS.on hD
  replace hA := hA.on hD
  replace hM := hM.on hD
  replace hX := hX.on hD
  replace hl1 := hl1.on hD
  replace hq1 := hq1.on hD
  replace hB := hB.trans (hD.mono hB.size)
  replace hT := hT.below hD
  clear hD
  have chS0 := hS.cell (j := 0) (v := .int .u32 s.d0) rfl
  have chS1 := hS.cell (j := 1) (v := .int .u32 s.d1) rfl
  have chS2 := hS.cell (j := 2) (v := .int .u32 s.d2) rfl
  have chS3 := hS.cell (j := 3) (v := .int .u32 s.d3) rfl
  have chA0 := hA.cell (j := 0) (v := .int .u8 x) rfl
  have chA1 := hA.cell (j := 1) (v := .int .u8 y) rfl
  have chA2 := hA.cell (j := 2) (v := .int .u8 z) rfl
  have chM0 := hM.cell (j := 0) (v := .int .u32 msg.d0) rfl
  have chM1 := hM.cell (j := 1) (v := .int .u32 msg.d1) rfl
  have chM2 := hM.cell (j := 2) (v := .int .u32 msg.d2) rfl
  have chM3 := hM.cell (j := 3) (v := .int .u32 msg.d3) rfl
  have chX0 := hX.cell (j := 0) (v := .int .i64 (i : Int)) rfl
  have chX1 := hX.cell (j := 1) (v := .slice (some ⟨g, 0, none⟩) 35 35) rfl
  have chX2 := hX.cell (j := 2) (v := .slice p1 N c1) rfl
  have chP0 := hP.cell (j := 0) (v := .int .u32 v.d0) rfl
  have chP1 := hP.cell (j := 1) (v := .int .u32 v.d1) rfl
  have chP2 := hP.cell (j := 2) (v := .int .u32 v.d2) rfl
  have chP3 := hP.cell (j := 3) (v := .int .u32 v.d3) rfl
  go_wp2_with fail
  clear hw8 chS0 chS1 chS2 chS3 chA0 chA1 chA2 chM0 chM1 chM2 chM3 chX0 chX1 chX2 chP0 chP1 chP2 chP3
  refine (ccheck6_any v msg (i : Int) L Q true (some ⟨g, 0, none⟩) p1 35 35 N c1 w8 hmo HLO.out HQO.out HLN.out HN.out.symm (rdS_some hl1) hq1 (Nat.le_of_eq HLN.out.symm) (by unfold maxLen; omega) hc1 hm1 hT HC.out).mono ?_
  rintro e w9 ⟨rfl, hD⟩
  replace hS := hS.on hD
  replace hA := hA.on hD
  replace hM := hM.on hD
  replace hX := hX.on hD
  replace hP := hP.on hD
  replace hl1 := hl1.on hD
  replace hq1 := hq1.on hD
  replace hB := hB.trans (hD.mono hB.size)
  replace hT := hT.below hD
  clear hD
  have x0 := hX.cell (j := 0) (v := .int .i64 (i : Int)) rfl
  have x1 := hX.cell (j := 1) (v := .slice (some ⟨g, 0, none⟩) 35 35) rfl
  have x2 := hX.cell (j := 2) (v := .slice p1 N c1) rfl
  obtain ⟨w10, hw10⟩ : ∃ w', w9.alloc (.cells #[.int .i64 (k : Int), .slice (some ⟨g, 0, none⟩) 35 35, .slice p1 N c1] 38) = w' := ⟨_, rfl⟩
  have hY : Box 38 w9.heap.size [.int .i64 (k : Int), .slice (some ⟨g, 0, none⟩) 35 35, .slice p1 N c1] w10 := by rw [← hw10]; exact Box.new 38 [.int .i64 (k : Int), .slice (some ⟨g, 0, none⟩) 35 35, .slice p1 N c1] w9
  have hD : Below w9.heap.size w9 w10 := by rw [← hw10]; exact (Below.refl _ _).alloc (Nat.le_refl _) _
  replace hS := hS.on hD
  replace hA := hA.on hD
  replace hM := hM.on hD
  replace hX := hX.on hD
  replace hP := hP.on hD
  replace hl1 := hl1.on hD
  replace hq1 := hq1.on hD
  replace hB := hB.trans (hD.mono hB.size)
  replace hT := hT.below hD
  clear hD
  have chS0 := hS.cell (j := 0) (v := .int .u32 s.d0) rfl
  have chS1 := hS.cell (j := 1) (v := .int .u32 s.d1) rfl
  have chS2 := hS.cell (j := 2) (v := .int .u32 s.d2) rfl
  have chS3 := hS.cell (j := 3) (v := .int .u32 s.d3) rfl
  have chA0 := hA.cell (j := 0) (v := .int .u8 x) rfl
  have chA1 := hA.cell (j := 1) (v := .int .u8 y) rfl
  have chA2 := hA.cell (j := 2) (v := .int .u8 z) rfl
  have chM0 := hM.cell (j := 0) (v := .int .u32 msg.d0) rfl
  have chM1 := hM.cell (j := 1) (v := .int .u32 msg.d1) rfl
  have chM2 := hM.cell (j := 2) (v := .int .u32 msg.d2) rfl
  have chM3 := hM.cell (j := 3) (v := .int .u32 msg.d3) rfl
  have chX0 := hX.cell (j := 0) (v := .int .i64 (i : Int)) rfl
  have chX1 := hX.cell (j := 1) (v := .slice (some ⟨g, 0, none⟩) 35 35) rfl
  have chX2 := hX.cell (j := 2) (v := .slice p1 N c1) rfl
  have chP0 := hP.cell (j := 0) (v := .int .u32 v.d0) rfl
  have chP1 := hP.cell (j := 1) (v := .int .u32 v.d1) rfl
  have chP2 := hP.cell (j := 2) (v := .int .u32 v.d2) rfl
  have chP3 := hP.cell (j := 3) (v := .int .u32 v.d3) rfl
  have chY0 := hY.cell (j := 0) (v := .int .i64 (k : Int)) rfl
  have chY1 := hY.cell (j := 1) (v := .slice (some ⟨g, 0, none⟩) 35 35) rfl
  have chY2 := hY.cell (j := 2) (v := .slice p1 N c1) rfl
  go_wp2_with fail
  clear hw10 x0 x1 x2 chS0 chS1 chS2 chS3 chA0 chA1 chA2 chM0 chM1 chM2 chM3 chX0 chX1 chX2 chP0 chP1 chP2 chP3 chY0 chY1 chY2
  refine (ccheck6_any v msg (k : Int) L Q true (some ⟨g, 0, none⟩) p1 35 35 N c1 w10 hmo HLO.out HQO.out HLN.out HN.out.symm (rdS_some hl1) hq1 (Nat.le_of_eq HLN.out.symm) (by unfold maxLen; omega) hc1 hm1 hT HD.out).mono ?_
  rintro e w11 ⟨rfl, hD⟩
  replace hS := hS.on hD
  replace hA := hA.on hD
  replace hM := hM.on hD
  replace hX := hX.on hD
  replace hP := hP.on hD
  replace hY := hY.on hD
  replace hl1 := hl1.on hD
  replace hq1 := hq1.on hD
  replace hB := hB.trans (hD.mono hB.size)
  replace hT := hT.below hD
  clear hD
  have chS0 := hS.cell (j := 0) (v := .int .u32 s.d0) rfl
  have chS1 := hS.cell (j := 1) (v := .int .u32 s.d1) rfl
  have chS2 := hS.cell (j := 2) (v := .int .u32 s.d2) rfl
  have chS3 := hS.cell (j := 3) (v := .int .u32 s.d3) rfl
  have chA0 := hA.cell (j := 0) (v := .int .u8 x) rfl
  have chA1 := hA.cell (j := 1) (v := .int .u8 y) rfl
  have chA2 := hA.cell (j := 2) (v := .int .u8 z) rfl
  have chM0 := hM.cell (j := 0) (v := .int .u32 msg.d0) rfl
  have chM1 := hM.cell (j := 1) (v := .int .u32 msg.d1) rfl
  have chM2 := hM.cell (j := 2) (v := .int .u32 msg.d2) rfl
  have chM3 := hM.cell (j := 3) (v := .int .u32 msg.d3) rfl
  have chX0 := hX.cell (j := 0) (v := .int .i64 (i : Int)) rfl
  have chX1 := hX.cell (j := 1) (v := .slice (some ⟨g, 0, none⟩) 35 35) rfl
  have chX2 := hX.cell (j := 2) (v := .slice p1 N c1) rfl
  have chP0 := hP.cell (j := 0) (v := .int .u32 v.d0) rfl
  have chP1 := hP.cell (j := 1) (v := .int .u32 v.d1) rfl
  have chP2 := hP.cell (j := 2) (v := .int .u32 v.d2) rfl
  have chP3 := hP.cell (j := 3) (v := .int .u32 v.d3) rfl
  have chY0 := hY.cell (j := 0) (v := .int .i64 (k : Int)) rfl
  have chY1 := hY.cell (j := 1) (v := .slice (some ⟨g, 0, none⟩) 35 35) rfl
  have chY2 := hY.cell (j := 2) (v := .slice p1 N c1) rfl
  go_wp2_with fail
  clear chS0 chS1 chS2 chS3 chA0 chA1 chA2 chM0 chM1 chM2 chM3 chX0 chX1 chX2 chP0 chP1 chP2 chP3 chY0 chY1 chY2
  refine (csign6_yes s msg h k L2 Q2 w11 hs hT hmo hh HK.out HL2.out HQ2.out N HN2.out).mono ?_
  rintro e w12 ⟨g2, p2, c2, rfl, hgB, hl2, hO1, hD⟩
  replace hS := hS.on hD
  replace hA := hA.on hD
  replace hM := hM.on hD
  replace hX := hX.on hD
  replace hP := hP.on hD
  replace hY := hY.on hD
  replace hl1 := hl1.on hD
  replace hq1 := hq1.on hD
  replace hB := hB.trans (hD.mono hB.size)
  replace hT := hT.below hD
  clear hD
  have hq2 := hO1.use.2.1
  have hc2 := hO1.use.2.2.1
  have hm2 := hO1.use.2.2.2
  clear hO1 hgB hl2
  obtain ⟨w13, hw13⟩ : ∃ w', w12.alloc (.cells #[.int .i64 (k : Int), .slice (some ⟨g2, 0, none⟩) 35 35, .slice p2 N c2] 38) = w' := ⟨_, rfl⟩
  have hZ : Box 38 w12.heap.size [.int .i64 (k : Int), .slice (some ⟨g2, 0, none⟩) 35 35, .slice p2 N c2] w13 := by rw [← hw13]; exact Box.new 38 [.int .i64 (k : Int), .slice (some ⟨g2, 0, none⟩) 35 35, .slice p2 N c2] w12
  have hD : Below w12.heap.size w12 w13 := by rw [← hw13]; exact (Below.refl _ _).alloc (Nat.le_refl _) _
  replace hS := hS.on hD
  replace hA := hA.on hD
  replace hM := hM.on hD
  replace hX := hX.on hD
  replace hP := hP.on hD
  replace hY := hY.on hD
  replace hl1 := hl1.on hD
  replace hq1 := hq1.on hD
  replace hq2 := hq2.on hD
  replace hB := hB.trans (hD.mono hB.size)
  replace hT := hT.below hD
  clear hD
  have chS0 := hS.cell (j := 0) (v := .int .u32 s.d0) rfl
  have chS1 := hS.cell (j := 1) (v := .int .u32 s.d1) rfl
  have chS2 := hS.cell (j := 2) (v := .int .u32 s.d2) rfl
  have chS3 := hS.cell (j := 3) (v := .int .u32 s.d3) rfl
  have chA0 := hA.cell (j := 0) (v := .int .u8 x) rfl
  have chA1 := hA.cell (j := 1) (v := .int .u8 y) rfl
  have chA2 := hA.cell (j := 2) (v := .int .u8 z) rfl
  have chM0 := hM.cell (j := 0) (v := .int .u32 msg.d0) rfl
  have chM1 := hM.cell (j := 1) (v := .int .u32 msg.d1) rfl
  have chM2 := hM.cell (j := 2) (v := .int .u32 msg.d2) rfl
  have chM3 := hM.cell (j := 3) (v := .int .u32 msg.d3) rfl
  have chX0 := hX.cell (j := 0) (v := .int .i64 (i : Int)) rfl
  have chX1 := hX.cell (j := 1) (v := .slice (some ⟨g, 0, none⟩) 35 35) rfl
  have chX2 := hX.cell (j := 2) (v := .slice p1 N c1) rfl
  have chP0 := hP.cell (j := 0) (v := .int .u32 v.d0) rfl
  have chP1 := hP.cell (j := 1) (v := .int .u32 v.d1) rfl
  have chP2 := hP.cell (j := 2) (v := .int .u32 v.d2) rfl
  have chP3 := hP.cell (j := 3) (v := .int .u32 v.d3) rfl
  have chY0 := hY.cell (j := 0) (v := .int .i64 (k : Int)) rfl
  have chY1 := hY.cell (j := 1) (v := .slice (some ⟨g, 0, none⟩) 35 35) rfl
  have chY2 := hY.cell (j := 2) (v := .slice p1 N c1) rfl
  have chZ0 := hZ.cell (j := 0) (v := .int .i64 (k : Int)) rfl
  have chZ1 := hZ.cell (j := 1) (v := .slice (some ⟨g2, 0, none⟩) 35 35) rfl
  have chZ2 := hZ.cell (j := 2) (v := .slice p2 N c2) rfl
  go_wp2_with fail
  clear hw13 chS0 chS1 chS2 chS3 chA0 chA1 chA2 chM0 chM1 chM2 chM3 chX0 chX1 chX2 chP0 chP1 chP2 chP3 chY0 chY1 chY2 chZ0 chZ1 chZ2
  refine (rkeys_row s h l NL w13 hs hh HLK.out HNL.out HLL.out).mono ?_
  rintro e w14 ⟨bl, ol, cl, rfl, hrl, hD⟩
  replace hS := hS.on hD
  replace hA := hA.on hD
  replace hM := hM.on hD
  replace hX := hX.on hD
  replace hP := hP.on hD
  replace hY := hY.on hD
  replace hZ := hZ.on hD
  replace hl1 := hl1.on hD
  replace hq1 := hq1.on hD
  replace hq2 := hq2.on hD
  replace hB := hB.trans (hD.mono hB.size)
  replace hT := hT.below hD
  clear hD
  have HS0 : Hid (w14.drew.cell? ⟨w9.heap.size, 0, none⟩ = some (.int .i64 (k : Int)) ∧ w14.drew.cell? ⟨w9.heap.size, 1, none⟩ = some (.slice (some ⟨g, 0, none⟩) 35 35) ∧ w14.drew.cell? ⟨w9.heap.size, 2, none⟩ = some (.slice p1 N c1) ∧ w14.drew.cell? ⟨w12.heap.size, 0, none⟩ = some (.int .i64 (k : Int)) ∧ w14.drew.cell? ⟨w12.heap.size, 1, none⟩ = some (.slice (some ⟨g2, 0, none⟩) 35 35) ∧ w14.drew.cell? ⟨w12.heap.size, 2, none⟩ = some (.slice p2 N c2) ∧ w14.drew.cell? ⟨bl, ol + k * 4, none⟩ = some (.int .u32 ak.d0) ∧ w14.drew.cell? ⟨bl, ol + k * 4 + 1, none⟩ = some (.int .u32 ak.d1) ∧ w14.drew.cell? ⟨bl, ol + k * 4 + 2, none⟩ = some (.int .u32 ak.d2) ∧ w14.drew.cell? ⟨bl, ol + k * 4 + 3, none⟩ = some (.int .u32 ak.d3) ∧ w14.drew.cell? ⟨bl, ol + i * 4, none⟩ = some (.int .u32 ai.d0) ∧ w14.drew.cell? ⟨bl, ol + i * 4 + 1, none⟩ = some (.int .u32 ai.d1) ∧ w14.drew.cell? ⟨bl, ol + i * 4 + 2, none⟩ = some (.int .u32 ai.d2) ∧ w14.drew.cell? ⟨bl, ol + i * 4 + 3, none⟩ = some (.int .u32 ai.d3)) := by
    have k1 := hrl.2 k (by have := HNL.out; omega)
    have k2 := hrl.2 i (by have := HNL.out; omega)
    rw [HGK.out] at k1; rw [HGI.out] at k2
    exact ⟨hY.cell rfl, hY.cell rfl, hY.cell rfl, hZ.cell rfl, hZ.cell rfl, hZ.cell rfl, k1.1, k1.2.1, k1.2.2.1, k1.2.2.2, k2.1, k2.2.1, k2.2.2.1, k2.2.2.2⟩
  have g0 : w9.heap.size < w14.drew.heap.size := hY.lt
  have g1 : w12.heap.size < w14.drew.heap.size := hZ.lt
  have g3 : bl < w14.drew.heap.size := hrl.1
  replace hB : Below w.heap.size w w14.drew := hB.drew
  have hq3 : RdS w14.drew p1 Q := hq1
  have hq4 : RdS w14.drew p2 Q2 := hq2
  have hCur : Below w14.drew.heap.size w14.drew w14.drew := Below.refl _ _
  have hszB := hB.size
  clear hS hA hM hX hP hY hZ hl1 hq1 hq2 hT hrl
  have HCS := Lib.hid (HCL.out HS2.out)
  go_wp2_with fail
  go_region_held3 (fun w' => w'.cell? ⟨w9.heap.size, 0, none⟩ = some (.int .i64 (k : Int)) ∧ w'.cell? ⟨w9.heap.size, 1, none⟩ = some (.slice (some ⟨g, 0, none⟩) 35 35) ∧ w'.cell? ⟨w9.heap.size, 2, none⟩ = some (.slice p1 N c1) ∧ w'.cell? ⟨w12.heap.size, 0, none⟩ = some (.int .i64 (k : Int)) ∧ w'.cell? ⟨w12.heap.size, 1, none⟩ = some (.slice (some ⟨g2, 0, none⟩) 35 35) ∧ w'.cell? ⟨w12.heap.size, 2, none⟩ = some (.slice p2 N c2) ∧ w'.cell? ⟨bl, ol + k * 4, none⟩ = some (.int .u32 ak.d0) ∧ w'.cell? ⟨bl, ol + k * 4 + 1, none⟩ = some (.int .u32 ak.d1) ∧ w'.cell? ⟨bl, ol + k * 4 + 2, none⟩ = some (.int .u32 ak.d2) ∧ w'.cell? ⟨bl, ol + k * 4 + 3, none⟩ = some (.int .u32 ak.d3) ∧ w'.cell? ⟨bl, ol + i * 4, none⟩ = some (.int .u32 ai.d0) ∧ w'.cell? ⟨bl, ol + i * 4 + 1, none⟩ = some (.int .u32 ai.d1) ∧ w'.cell? ⟨bl, ol + i * 4 + 2, none⟩ = some (.int .u32 ai.d2) ∧ w'.cell? ⟨bl, ol + i * 4 + 3, none⟩ = some (.int .u32 ai.d3))
    (exact keepE hCur g0 g1 g3 HS0.out)
    (first
      | (go_at_call 22; (with_reducible refine (rclash_nm k ai ak Q Q2 p1 p2 N N c1 c2 _ HN.out.symm HN2.out.symm HAI.out HAK.out HQO.out HQP.out (hq3.on hCur) (hq4.on hCur) hc1 hm1 hc2 hm2 hkI HCS.out).mono ?_); rintro e wb ⟨rfl, hP⟩; have hCur : Below w14.drew.heap.size w14.drew wb := hCur.trans (hP.mono hCur.size)))
  all_goals
    go_wp2_with fail
    go_ret
    exact ⟨rfl, hB.trans (hCur.mono hszB)⟩
theorem places_walk (s msg : D4) (x y z : Int) (w : World) (hs : s.ok) (hmo : msg.ok) (hx : 0 ≤ x) (hx2 : x < 256) (hy : 0 ≤ y) (hy2 : y < 256) (hz : 0 ≤ z) (hz2 : z < 256) (hT : TurnsOk w) :
    Calls Tryd.prog 9 #[.agg #[.int .u32 s.d0, .int .u32 s.d1, .int .u32 s.d2, .int .u32 s.d3], .agg #[.int .u8 x, .int .u8 y, .int .u8 z], .agg #[.int .u32 msg.d0, .int .u32 msg.d1, .int .u32 msg.d2, .int .u32 msg.d3]] w fun e w' => e = .returned (.bool true) ∧ Below w.heap.size w w' := by
  obtain ⟨h, hh⟩ := Int.eq_ofNat_of_zero_le (show 0 ≤ 1 + x % 2 by omega)
  have hh1 : 1 ≤ h := by omega
  have hh2 : h ≤ 2 := by omega
  have hm : (0 : Int) < 2 * (h : Int) := by omega
  obtain ⟨i, hi⟩ := Int.eq_ofNat_of_zero_le (Int.emod_nonneg y (show 2 * (h : Int) ≠ 0 by omega))
  obtain ⟨k, hk⟩ := Int.eq_ofNat_of_zero_le (Int.emod_nonneg z (show 2 * (h : Int) ≠ 0 by omega))
  have hp : 2 ^ h = 2 * h := by
    rcases (show h = 1 ∨ h = 2 by omega) with e | e <;> rw [e] <;> rfl
  have hi2 : i < 2 ^ h := by rw [hp]; have := Int.emod_lt_of_pos y hm; omega
  have hk2 : k < 2 ^ h := by rw [hp]; have := Int.emod_lt_of_pos z hm; omega
  cases e1 : check6 (pubK s h) msg (k : Int) (signL (seedK s i) msg) (pathK s h i)
  · exact places_no s msg x y z h i k w hs hmo hx hx2 hy hy2 hz hz2 hh hi hk hh1 hh2 (by omega) hi2 hk2 e1 hT
  · cases e2 : sameD (keyK s k) (keyK s i)
    · exact places_else s msg x y z h i k w hs hmo hx hx2 hy hy2 hz hz2 hh hi hk hh1 hh2 (by omega) hi2 hk2 e1 e2 hT
    · exact places_same s msg x y z h i k w hs hmo hx hx2 hy hy2 hz hz2 hh hi hk hh1 hh2 (by omega) hi2 hk2 e1 e2 hT
end Go.Proofs.YtdphhpmkcalahaaDoor
