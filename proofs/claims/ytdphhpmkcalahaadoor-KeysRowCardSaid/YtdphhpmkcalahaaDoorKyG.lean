/-
  The document's Use of layer 6 where the place is free (written by gen_use3.py).
-/
import Derived.Test.YtdphhpmkcalahaaDoorKyE
namespace Go.Proofs.YtdphhpmkcalahaaDoor
open Go.RowKit

set_option maxHeartbeats 4000000 in
set_option maxRecDepth 100000 in
theorem ruse6_yes (s msg : D4) (h n : Nat) (L Q : List D4) (w : World) (hs : s.ok) (hmo : msg.ok) (hh : h ≤ 4) (hn : n < 2 ^ h) (hL : signL (seedK s n) msg = L) (hQ : pathK s h n = Q) (QN : Nat) (hQN : Q.length = QN) :
    Calls Tryd.prog 20 #[.agg #[.int .u32 s.d0, .int .u32 s.d1, .int .u32 s.d2, .int .u32 s.d3, .int .i64 (h : Int), .int .i64 (n : Int)], .agg #[.int .u32 msg.d0, .int .u32 msg.d1, .int .u32 msg.d2, .int .u32 msg.d3]] w fun e w' => ∃ p c p' c', e = .returned (.tuple #[.agg #[.int .u32 s.d0, .int .u32 s.d1, .int .u32 s.d2, .int .u32 s.d3, .int .i64 (h : Int), .int .i64 ((n : Int) + 1)], .agg #[.int .i64 (n : Int), .slice p 35 c, .slice p' QN c'], .int .i64 0]) ∧ OwnsD w.heap.size (.slice p 35 c) L w' ∧ OwnsD w.heap.size (.slice p' QN c') Q w' ∧ Below w.heap.size w w' := by
  have hd1 : decide ((h : Int) < 0) = false := by simp
  have hd2 : decide ((4 : Int) < (h : Int)) = false := by simp; omega
  have hn16 : n < 16 := Nat.lt_of_lt_of_le hn (pow_le16 (Nat.le_refl _) hh)
  have HN := Lib.hid hn
  have HL := Lib.hid hL
  have HQ := Lib.hid hQ
  have HQN := Lib.hid hQN
  clear hn hL hQ hQN
  obtain ⟨w0, hw0⟩ : ∃ w0, (((w.alloc (.cells #[.int .u32 s.d0, .int .u32 s.d1, .int .u32 s.d2, .int .u32 s.d3, .int .i64 (h : Int), .int .i64 (n : Int)] 30)).alloc (.cells #[.int .u32 msg.d0, .int .u32 msg.d1, .int .u32 msg.d2, .int .u32 msg.d3] 24)).alloc (.cells #[.int .u32 0, .int .u32 0, .int .u32 0, .int .u32 0, .int .i64 0, .int .i64 0] 30)).alloc (.cells #[.int .i64 0, .slice none 0 0, .slice none 0 0] 38) = w0 := ⟨_, rfl⟩
  obtain ⟨hX0, hM0, hR0, hG0, hB0⟩ := start_use s msg h n w w0 hw0
  obtain ⟨x0, x1, x2, x3, x4, x5⟩ := hX0.c6
  obtain ⟨m0, m1, m2, m3⟩ := Arr.c4 hM0
  have hg0 := hG0.lt
  go_enter Tryd.func20, Tryd.ntmps20
  go_wp2_with fail
  clear hw0
  refine (rsign6_yes s msg h n L Q w0 hs hmo hh HN.out HL.out HQ.out QN HQN.out).mono ?_
  rintro e w1 ⟨pu, cu, pv, cv, rfl, hU, hV, hD⟩
  obtain ⟨w2, hw2⟩ : ∃ w2, w1.alloc (.cells #[.int .i64 (n : Int), .slice pu 35 cu, .slice pv QN cv] 38) = w2 := ⟨_, rfl⟩
  have hY2 : Box 38 w1.heap.size [.int .i64 (n : Int), .slice pu 35 cu, .slice pv QN cv] w2 := by rw [← hw2]; exact Box.new 38 [.int .i64 (n : Int), .slice pu 35 cu, .slice pv QN cv] w1
  have hD2 : Below w1.heap.size w1 w2 := by rw [← hw2]; exact (Below.refl _ _).alloc (Nat.le_refl _) _
  have hD02 := hD.trans (hD2.mono hD.size)
  have hX2 := hX0.on hD02
  have hR2 := hR0.on hD02
  have hG2 := hG0.on hD02
  have hU2 := hU.on hD2
  have hV2 := hV.on hD2
  have hB2 := hB0.trans (hD02.mono hB0.size)
  have hsz := hD.size
  clear hX0 hM0 hR0 hG0 hB0 hD hD2 hD02 x0 x1 x2 x3 x4 x5 m0 m1 m2 m3 hU hV
  have hX3 := hX2.set 5 (.int .i64 ((n : Int) + 1))
  have hY3 := hY2.far (a := ⟨w.heap.size, 5, none⟩) (show w1.heap.size ≠ w.heap.size by omega) (.int .i64 ((n : Int) + 1))
  have hR3 := hR2.far (a := ⟨w.heap.size, 5, none⟩) (show w.heap.size + 1 + 1 ≠ w.heap.size by omega) (.int .i64 ((n : Int) + 1))
  have hG3 := hG2.far (a := ⟨w.heap.size, 5, none⟩) (show w.heap.size + 1 + 1 + 1 ≠ w.heap.size by omega) (.int .i64 ((n : Int) + 1))
  have hU3 := hU2.far (a := ⟨w.heap.size, 5, none⟩) (show w.heap.size < w0.heap.size by omega) (.int .i64 ((n : Int) + 1))
  have hV3 := hV2.far (a := ⟨w.heap.size, 5, none⟩) (show w.heap.size < w0.heap.size by omega) (.int .i64 ((n : Int) + 1))
  have hB3 := hB2.setCell (p := ⟨w.heap.size, 5, none⟩) (Nat.le_refl _) (.int .i64 ((n : Int) + 1))
  obtain ⟨x0, x1, x2, x3, x4, x5⟩ := hX2.c6
  have f5 := hX2.fz 5
  go_wp2_with fail
  clear hw2
  generalize w2.setCell ⟨w.heap.size, 5, none⟩ (.int .i64 ((n : Int) + 1)) = w3 at *
  clear x0 x1 x2 x3 x4 x5 f5 hX2 hY2 hR2 hG2 hU2 hV2 hB2
  have hX4 : Box 30 w.heap.size [.int .u32 s.d0, .int .u32 s.d1, .int .u32 s.d2, .int .u32 s.d3, .int .i64 (h : Int), .int .i64 ((n : Int) + 1)] w3.drew := hX3
  have hY4 : Box 38 w1.heap.size [.int .i64 (n : Int), .slice pu 35 cu, .slice pv QN cv] w3.drew := hY3
  obtain ⟨x0, x1, x2, x3, x4, x5⟩ := hX4.c6
  obtain ⟨y0, y1, y2⟩ := hY4.c3
  have hR4 : Box 30 (w.heap.size + 1 + 1) [.int .u32 0, .int .u32 0, .int .u32 0, .int .u32 0, .int .i64 0, .int .i64 0] w3.drew := hR3
  have hG4 : Box 38 (w.heap.size + 1 + 1 + 1) [.int .i64 0, .slice none 0 0, .slice none 0 0] w3.drew := hG3
  have hU4 : OwnsD w0.heap.size (.slice pu 35 cu) L w3.drew := hU3
  have hV4 : OwnsD w0.heap.size (.slice pv QN cv) Q w3.drew := hV3
  have hB4 : Below w.heap.size w w3.drew := hB3.drew
  obtain ⟨b0, b1, b2, b3, b4, b5⟩ := hR4.c6
  have f0 := hR4.fz 0
  have f1 := hR4.fz 1
  have f2 := hR4.fz 2
  have f3 := hR4.fz 3
  have f4 := hR4.fz 4
  have f5 := hR4.fz 5
  obtain ⟨g0, g1, g2⟩ := hG4.c3
  have j0 := hG4.fz 0
  have j1 := hG4.fz 1
  have j2 := hG4.fz 2
  obtain ⟨b0', b1', b2', b3', b4', b5'⟩ := hR3.c6
  have f0' := hR3.fz 0
  have f1' := hR3.fz 1
  have f2' := hR3.fz 2
  have f3' := hR3.fz 3
  have f4' := hR3.fz 4
  have f5' := hR3.fz 5
  obtain ⟨g0', g1', g2'⟩ := hG3.c3
  have j0' := hG3.fz 0
  have j1' := hG3.fz 1
  have j2' := hG3.fz 2
  obtain ⟨x0', x1', x2', x3', x4', x5'⟩ := hX3.c6
  obtain ⟨y0', y1', y2'⟩ := hY3.c3
  go_region
  clear hR4 hG4 hU4 hV4 hB4 hX4 hY4 b0 b1 b2 b3 b4 b5 f0 f1 f2 f3 f4 f5 g0 g1 g2 j0 j1 j2 x0 x1 x2 x3 x4 x5 y0 y1 y2
  clear b0' b1' b2' b3' b4' b5' f0' f1' f2' f3' f4' f5' g0' g1' g2' j0' j1' j2' x0' x1' x2' x3' x4' x5' y0' y1' y2'
  have hR6 := hR3.put6 (.int .u32 s.d0) (.int .u32 s.d1) (.int .u32 s.d2) (.int .u32 s.d3) (.int .i64 (h : Int)) (.int .i64 ((n : Int) + 1))
  have hG6 := ((((((hG3.far (a := ⟨w.heap.size + 1 + 1, 0, none⟩) (show w.heap.size + 1 + 1 + 1 ≠ w.heap.size + 1 + 1 by omega) (.int .u32 s.d0)).far (a := ⟨w.heap.size + 1 + 1, 1, none⟩) (show w.heap.size + 1 + 1 + 1 ≠ w.heap.size + 1 + 1 by omega) (.int .u32 s.d1)).far (a := ⟨w.heap.size + 1 + 1, 2, none⟩) (show w.heap.size + 1 + 1 + 1 ≠ w.heap.size + 1 + 1 by omega) (.int .u32 s.d2)).far (a := ⟨w.heap.size + 1 + 1, 3, none⟩) (show w.heap.size + 1 + 1 + 1 ≠ w.heap.size + 1 + 1 by omega) (.int .u32 s.d3)).far (a := ⟨w.heap.size + 1 + 1, 4, none⟩) (show w.heap.size + 1 + 1 + 1 ≠ w.heap.size + 1 + 1 by omega) (.int .i64 (h : Int))).far (a := ⟨w.heap.size + 1 + 1, 5, none⟩) (show w.heap.size + 1 + 1 + 1 ≠ w.heap.size + 1 + 1 by omega) (.int .i64 ((n : Int) + 1)))
  have hGf := hG6.put3 (.int .i64 (n : Int)) (.slice pu 35 cu) (.slice pv QN cv)
  have hRf := (((hR6.far (a := ⟨w.heap.size + 1 + 1 + 1, 0, none⟩) (show w.heap.size + 1 + 1 ≠ w.heap.size + 1 + 1 + 1 by omega) (.int .i64 (n : Int))).far (a := ⟨w.heap.size + 1 + 1 + 1, 1, none⟩) (show w.heap.size + 1 + 1 ≠ w.heap.size + 1 + 1 + 1 by omega) (.slice pu 35 cu)).far (a := ⟨w.heap.size + 1 + 1 + 1, 2, none⟩) (show w.heap.size + 1 + 1 ≠ w.heap.size + 1 + 1 + 1 by omega) (.slice pv QN cv))
  have hUf := (((((((((hU3.far (a := ⟨w.heap.size + 1 + 1, 0, none⟩) (show w.heap.size + 1 + 1 < w0.heap.size by omega) (.int .u32 s.d0)).far (a := ⟨w.heap.size + 1 + 1, 1, none⟩) (show w.heap.size + 1 + 1 < w0.heap.size by omega) (.int .u32 s.d1)).far (a := ⟨w.heap.size + 1 + 1, 2, none⟩) (show w.heap.size + 1 + 1 < w0.heap.size by omega) (.int .u32 s.d2)).far (a := ⟨w.heap.size + 1 + 1, 3, none⟩) (show w.heap.size + 1 + 1 < w0.heap.size by omega) (.int .u32 s.d3)).far (a := ⟨w.heap.size + 1 + 1, 4, none⟩) (show w.heap.size + 1 + 1 < w0.heap.size by omega) (.int .i64 (h : Int))).far (a := ⟨w.heap.size + 1 + 1, 5, none⟩) (show w.heap.size + 1 + 1 < w0.heap.size by omega) (.int .i64 ((n : Int) + 1))).far (a := ⟨w.heap.size + 1 + 1 + 1, 0, none⟩) (show w.heap.size + 1 + 1 + 1 < w0.heap.size by omega) (.int .i64 (n : Int))).far (a := ⟨w.heap.size + 1 + 1 + 1, 1, none⟩) (show w.heap.size + 1 + 1 + 1 < w0.heap.size by omega) (.slice pu 35 cu)).far (a := ⟨w.heap.size + 1 + 1 + 1, 2, none⟩) (show w.heap.size + 1 + 1 + 1 < w0.heap.size by omega) (.slice pv QN cv))
  have hVf := (((((((((hV3.far (a := ⟨w.heap.size + 1 + 1, 0, none⟩) (show w.heap.size + 1 + 1 < w0.heap.size by omega) (.int .u32 s.d0)).far (a := ⟨w.heap.size + 1 + 1, 1, none⟩) (show w.heap.size + 1 + 1 < w0.heap.size by omega) (.int .u32 s.d1)).far (a := ⟨w.heap.size + 1 + 1, 2, none⟩) (show w.heap.size + 1 + 1 < w0.heap.size by omega) (.int .u32 s.d2)).far (a := ⟨w.heap.size + 1 + 1, 3, none⟩) (show w.heap.size + 1 + 1 < w0.heap.size by omega) (.int .u32 s.d3)).far (a := ⟨w.heap.size + 1 + 1, 4, none⟩) (show w.heap.size + 1 + 1 < w0.heap.size by omega) (.int .i64 (h : Int))).far (a := ⟨w.heap.size + 1 + 1, 5, none⟩) (show w.heap.size + 1 + 1 < w0.heap.size by omega) (.int .i64 ((n : Int) + 1))).far (a := ⟨w.heap.size + 1 + 1 + 1, 0, none⟩) (show w.heap.size + 1 + 1 + 1 < w0.heap.size by omega) (.int .i64 (n : Int))).far (a := ⟨w.heap.size + 1 + 1 + 1, 1, none⟩) (show w.heap.size + 1 + 1 + 1 < w0.heap.size by omega) (.slice pu 35 cu)).far (a := ⟨w.heap.size + 1 + 1 + 1, 2, none⟩) (show w.heap.size + 1 + 1 + 1 < w0.heap.size by omega) (.slice pv QN cv))
  have hBf := below_put3 (below_put6 hB3 (show w.heap.size ≤ w.heap.size + 1 + 1 by omega) (.int .u32 s.d0) (.int .u32 s.d1) (.int .u32 s.d2) (.int .u32 s.d3) (.int .i64 (h : Int)) (.int .i64 ((n : Int) + 1))) (show w.heap.size ≤ w.heap.size + 1 + 1 + 1 by omega) (.int .i64 (n : Int)) (.slice pu 35 cu) (.slice pv QN cv)
  clear hX3 hY3 hR3 hG3 hU3 hV3 hB3 hR6 hG6
  generalize (((((((((w3.setCell ⟨w.heap.size + 1 + 1, 0, none⟩ (.int .u32 s.d0)).setCell ⟨w.heap.size + 1 + 1, 1, none⟩ (.int .u32 s.d1)).setCell ⟨w.heap.size + 1 + 1, 2, none⟩ (.int .u32 s.d2)).setCell ⟨w.heap.size + 1 + 1, 3, none⟩ (.int .u32 s.d3)).setCell ⟨w.heap.size + 1 + 1, 4, none⟩ (.int .i64 (h : Int))).setCell ⟨w.heap.size + 1 + 1, 5, none⟩ (.int .i64 ((n : Int) + 1))).setCell ⟨w.heap.size + 1 + 1 + 1, 0, none⟩ (.int .i64 (n : Int))).setCell ⟨w.heap.size + 1 + 1 + 1, 1, none⟩ (.slice pu 35 cu)).setCell ⟨w.heap.size + 1 + 1 + 1, 2, none⟩ (.slice pv QN cv)) = wf at *
  have hR5 : Box 30 (w.heap.size + 1 + 1) [.int .u32 s.d0, .int .u32 s.d1, .int .u32 s.d2, .int .u32 s.d3, .int .i64 (h : Int), .int .i64 ((n : Int) + 1)] wf.drew := hRf
  have hG5 : Box 38 (w.heap.size + 1 + 1 + 1) [.int .i64 (n : Int), .slice pu 35 cu, .slice pv QN cv] wf.drew := hGf
  obtain ⟨r0, r1, r2, r3, r4, r5⟩ := hR5.c6
  obtain ⟨t0, t1, t2⟩ := hG5.c3
  have hUd : OwnsD w0.heap.size (.slice pu 35 cu) L wf.drew := hUf
  have hVd : OwnsD w0.heap.size (.slice pv QN cv) Q wf.drew := hVf
  go_wp2_with fail
  refine bodyPost_ret (v := .tuple #[.agg #[.int .u32 s.d0, .int .u32 s.d1, .int .u32 s.d2, .int .u32 s.d3, .int .i64 (h : Int), .int .i64 ((n : Int) + 1)], .agg #[.int .i64 (n : Int), .slice pu 35 cu, .slice pv QN cv], .int .i64 0]) (by simp [results, Tryd.results20, go_sem, r0, r1, r2, r3, r4, r5, t0, t1, t2]) rfl ⟨pu, cu, pv, cv, rfl, hUd.lower (by omega), hVd.lower (by omega), hBf.drew⟩
end Go.Proofs.YtdphhpmkcalahaaDoor
