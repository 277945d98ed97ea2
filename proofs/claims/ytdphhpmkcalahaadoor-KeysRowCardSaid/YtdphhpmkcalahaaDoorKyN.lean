/-
  The code's New and Use of layer 6 (written by gen_cuse.py).
-/
import Derived.Test.YtdphhpmkcalahaaDoorKyL
import Derived.Test.YtdphhpmkcalahaaDoorKyF
import Derived.Test.YtdphhpmkcalahaaDoorKyG
namespace Go.Proofs.YtdphhpmkcalahaaDoor
open Go.RowKit

theorem start_new (s : D4) (w w0 : World) (h : (w.alloc (.cells #[.int .u32 s.d0, .int .u32 s.d1, .int .u32 s.d2, .int .u32 s.d3] 24)).alloc (.cells #[.int .u32 0, .int .u32 0, .int .u32 0, .int .u32 0, .int .i64 0, .int .i64 0] 30) = w0) :
    Arr .u32 24 w.heap.size s.toL w0 ∧ Box 30 (w.heap.size + 1) [.int .u32 0, .int .u32 0, .int .u32 0, .int .u32 0, .int .i64 0, .int .i64 0] w0 ∧ Below w.heap.size w w0 := by
  subst h
  obtain ⟨w1, h1⟩ : ∃ w1, w.alloc (.cells #[.int .u32 s.d0, .int .u32 s.d1, .int .u32 s.d2, .int .u32 s.d3] 24) = w1 := ⟨_, rfl⟩
  have hA1 : Arr .u32 24 w.heap.size s.toL w1 := by rw [← h1]; exact heap_alloc_new w _
  have a1 : w1.heap.size = w.heap.size + 1 := by rw [← h1]; simp
  have B1 : Below w.heap.size w w1 := by rw [← h1]; exact (Below.refl _ _).alloc (Nat.le_refl _) _
  rw [h1]
  refine ⟨hA1.al _, ?_, B1.alloc (by omega) _⟩
  rw [← a1]
  exact Box.new 30 [.int .u32 0, .int .u32 0, .int .u32 0, .int .u32 0, .int .i64 0, .int .i64 0] w1
set_option maxHeartbeats 4000000 in
set_option maxRecDepth 100000 in
theorem cnew6_no (s : D4) (h : Int) (hh : h < 0 ∨ 4 < h) (w : World) :
    Calls Tryd.prog 13 #[.agg #[.int .u32 s.d0, .int .u32 s.d1, .int .u32 s.d2, .int .u32 s.d3], .int .i64 h] w fun e w' => e = .returned (.tuple #[.agg #[.int .u32 0, .int .u32 0, .int .u32 0, .int .u32 0, .int .i64 0, .int .i64 0], .int .i64 2]) ∧ Below w.heap.size w w' := by
  have HALL := Lib.hid (show (decide (0 ≤ h) && decide (h ≤ 4)) = false by
    rw [Bool.and_eq_false_iff]
    rcases hh with q | q
    · left; exact decide_eq_false (by omega)
    · right; exact decide_eq_false (by omega))
  clear hh
  obtain ⟨w0, hw0⟩ : ∃ w0, ((w.alloc (.cells #[.int .u32 s.d0, .int .u32 s.d1, .int .u32 s.d2, .int .u32 s.d3] 24)).alloc (.cells #[.int .u32 0, .int .u32 0, .int .u32 0, .int .u32 0, .int .i64 0, .int .i64 0] 30)) = w0 := ⟨_, rfl⟩
  obtain ⟨hM0, hR0, hB0⟩ := start_new s w w0 hw0
  obtain ⟨l0, l1, l2, l3⟩ := Arr.c4 hM0
  obtain ⟨b0, b1, b2, b3, b4, b5⟩ := hR0.c6
  have f0 := hR0.fz 0
  have f1 := hR0.fz 1
  have f2 := hR0.fz 2
  have f3 := hR0.fz 3
  have f4 := hR0.fz 4
  have f5 := hR0.fz 5
  have hRf := hR0.put6 (.int .u32 0) (.int .u32 0) (.int .u32 0) (.int .u32 0) (.int .i64 0) (.int .i64 0)
  have hBf := below_put6 hB0 (show w.heap.size ≤ w.heap.size + 1 by omega) (.int .u32 0) (.int .u32 0) (.int .u32 0) (.int .u32 0) (.int .i64 0) (.int .i64 0)
  go_enter Tryd.func13, Tryd.ntmps13
  go_wp2_with fail
  refine (ishigh_any h w0).mono ?_
  rintro e w1 ⟨rfl, rfl⟩
  rw [HALL.out]
  clear hw0
  go_wp2_with fail
  generalize ((((((w0.setCell ⟨w.heap.size + 1, 0, none⟩ (.int .u32 0)).setCell ⟨w.heap.size + 1, 1, none⟩ (.int .u32 0)).setCell ⟨w.heap.size + 1, 2, none⟩ (.int .u32 0)).setCell ⟨w.heap.size + 1, 3, none⟩ (.int .u32 0)).setCell ⟨w.heap.size + 1, 4, none⟩ (.int .i64 0)).setCell ⟨w.heap.size + 1, 5, none⟩ (.int .i64 0)) = wf at *
  obtain ⟨r0, r1, r2, r3, r4, r5⟩ := hRf.c6
  refine bodyPost_ret (v := .tuple #[.agg #[.int .u32 0, .int .u32 0, .int .u32 0, .int .u32 0, .int .i64 0, .int .i64 0], .int .i64 2]) (by simp [results, Tryd.results13, go_sem, r0, r1, r2, r3, r4, r5]) rfl ⟨rfl, hBf⟩
set_option maxHeartbeats 4000000 in
set_option maxRecDepth 100000 in
theorem cnew6_yes (s : D4) (h : Nat) (hh : h ≤ 4) (w : World) :
    Calls Tryd.prog 13 #[.agg #[.int .u32 s.d0, .int .u32 s.d1, .int .u32 s.d2, .int .u32 s.d3], .int .i64 (h : Int)] w fun e w' => e = .returned (.tuple #[.agg #[.int .u32 s.d0, .int .u32 s.d1, .int .u32 s.d2, .int .u32 s.d3, .int .i64 (h : Int), .int .i64 0], .int .i64 0]) ∧ Below w.heap.size w w' := by
  have HALL := Lib.hid (show (decide (0 ≤ (h : Int)) && decide ((h : Int) ≤ 4)) = true by simp; omega)
  obtain ⟨w0, hw0⟩ : ∃ w0, ((w.alloc (.cells #[.int .u32 s.d0, .int .u32 s.d1, .int .u32 s.d2, .int .u32 s.d3] 24)).alloc (.cells #[.int .u32 0, .int .u32 0, .int .u32 0, .int .u32 0, .int .i64 0, .int .i64 0] 30)) = w0 := ⟨_, rfl⟩
  obtain ⟨hM0, hR0, hB0⟩ := start_new s w w0 hw0
  obtain ⟨l0, l1, l2, l3⟩ := Arr.c4 hM0
  obtain ⟨b0, b1, b2, b3, b4, b5⟩ := hR0.c6
  have f0 := hR0.fz 0
  have f1 := hR0.fz 1
  have f2 := hR0.fz 2
  have f3 := hR0.fz 3
  have f4 := hR0.fz 4
  have f5 := hR0.fz 5
  have hRf := hR0.put6 (.int .u32 s.d0) (.int .u32 s.d1) (.int .u32 s.d2) (.int .u32 s.d3) (.int .i64 (h : Int)) (.int .i64 0)
  have hBf := below_put6 hB0 (show w.heap.size ≤ w.heap.size + 1 by omega) (.int .u32 s.d0) (.int .u32 s.d1) (.int .u32 s.d2) (.int .u32 s.d3) (.int .i64 (h : Int)) (.int .i64 0)
  go_enter Tryd.func13, Tryd.ntmps13
  go_wp2_with fail
  refine (ishigh_any h w0).mono ?_
  rintro e w1 ⟨rfl, rfl⟩
  rw [HALL.out]
  clear hw0
  go_wp2_with fail
  generalize ((((((w0.setCell ⟨w.heap.size + 1, 0, none⟩ (.int .u32 s.d0)).setCell ⟨w.heap.size + 1, 1, none⟩ (.int .u32 s.d1)).setCell ⟨w.heap.size + 1, 2, none⟩ (.int .u32 s.d2)).setCell ⟨w.heap.size + 1, 3, none⟩ (.int .u32 s.d3)).setCell ⟨w.heap.size + 1, 4, none⟩ (.int .i64 (h : Int))).setCell ⟨w.heap.size + 1, 5, none⟩ (.int .i64 0)) = wf at *
  obtain ⟨r0, r1, r2, r3, r4, r5⟩ := hRf.c6
  refine bodyPost_ret (v := .tuple #[.agg #[.int .u32 s.d0, .int .u32 s.d1, .int .u32 s.d2, .int .u32 s.d3, .int .i64 (h : Int), .int .i64 0], .int .i64 0]) (by simp [results, Tryd.results13, go_sem, r0, r1, r2, r3, r4, r5]) rfl ⟨rfl, hBf⟩
set_option maxHeartbeats 4000000 in
set_option maxRecDepth 100000 in
theorem cuse6_range (s msg : D4) (h n : Int) (w : World) (hh : h < 0 ∨ 4 < h) :
    Calls Tryd.prog 19 #[.agg #[.int .u32 s.d0, .int .u32 s.d1, .int .u32 s.d2, .int .u32 s.d3, .int .i64 h, .int .i64 n], .agg #[.int .u32 msg.d0, .int .u32 msg.d1, .int .u32 msg.d2, .int .u32 msg.d3]] w fun e w' => e = .returned (.tuple #[.agg #[.int .u32 0, .int .u32 0, .int .u32 0, .int .u32 0, .int .i64 0, .int .i64 0], .agg #[.int .i64 0, .slice none 0 0, .slice none 0 0], .int .i64 2]) ∧ Below w.heap.size w w' := by
  obtain ⟨w0, hw0⟩ : ∃ w0, (((w.alloc (.cells #[.int .u32 s.d0, .int .u32 s.d1, .int .u32 s.d2, .int .u32 s.d3, .int .i64 h, .int .i64 n] 30)).alloc (.cells #[.int .u32 msg.d0, .int .u32 msg.d1, .int .u32 msg.d2, .int .u32 msg.d3] 24)).alloc (.cells #[.int .u32 0, .int .u32 0, .int .u32 0, .int .u32 0, .int .i64 0, .int .i64 0] 30)).alloc (.cells #[.int .i64 0, .slice none 0 0, .slice none 0 0] 38) = w0 := ⟨_, rfl⟩
  obtain ⟨hX0, hM0, hR0, hG0, hB0⟩ := start_use s msg h n w w0 hw0
  obtain ⟨x0, x1, x2, x3, x4, x5⟩ := hX0.c6
  obtain ⟨m0, m1, m2, m3⟩ := Arr.c4 hM0
  go_enter Tryd.func19, Tryd.ntmps19
  go_wp2_with fail
  clear hw0
  refine (csign6_range s msg h n w0 hh).mono ?_
  rintro e w1 ⟨rfl, hD⟩
  obtain ⟨w2, hw2⟩ : ∃ w2, w1.alloc (.cells #[.int .i64 0, .slice none 0 0, .slice none 0 0] 38) = w2 := ⟨_, rfl⟩
  have hD2 : Below w1.heap.size w1 w2 := by rw [← hw2]; exact (Below.refl _ _).alloc (Nat.le_refl _) _
  have hD02 := hD.trans (hD2.mono hD.size)
  have hZ2 : Box 38 w1.heap.size [.int .i64 0, .slice none 0 0, .slice none 0 0] w2 := by rw [← hw2]; exact Box.new 38 [.int .i64 0, .slice none 0 0, .slice none 0 0] w1
  have hR2 := hR0.on hD02
  have hG2 := hG0.on hD02
  have hB2 := hB0.trans (hD02.mono hB0.size)
  have hlt := hG0.lt
  have hsz := hD.size
  obtain ⟨z0, z1, z2⟩ := hZ2.c3
  have y0 := hZ2.fz 0
  have y1 := hZ2.fz 1
  have y2 := hZ2.fz 2
  obtain ⟨w3, hw3⟩ : ∃ w3, (((w2.setCell ⟨w1.heap.size, 0, none⟩ (.int .i64 0)).setCell ⟨w1.heap.size, 1, none⟩ (.slice none 0 0)).setCell ⟨w1.heap.size, 2, none⟩ (.slice none 0 0)) = w3 := ⟨_, rfl⟩
  have hR3 : Box 30 (w.heap.size + 1 + 1) [.int .u32 0, .int .u32 0, .int .u32 0, .int .u32 0, .int .i64 0, .int .i64 0] w3 := by
    rw [← hw3]
    exact (((hR2.far (a := ⟨w1.heap.size, 0, none⟩) (show w.heap.size + 1 + 1 ≠ w1.heap.size by omega) (.int .i64 0)).far (a := ⟨w1.heap.size, 1, none⟩) (show w.heap.size + 1 + 1 ≠ w1.heap.size by omega) (.slice none 0 0)).far (a := ⟨w1.heap.size, 2, none⟩) (show w.heap.size + 1 + 1 ≠ w1.heap.size by omega) (.slice none 0 0))
  have hG3 : Box 38 (w.heap.size + 1 + 1 + 1) [.int .i64 0, .slice none 0 0, .slice none 0 0] w3 := by
    rw [← hw3]
    exact (((hG2.far (a := ⟨w1.heap.size, 0, none⟩) (show w.heap.size + 1 + 1 + 1 ≠ w1.heap.size by omega) (.int .i64 0)).far (a := ⟨w1.heap.size, 1, none⟩) (show w.heap.size + 1 + 1 + 1 ≠ w1.heap.size by omega) (.slice none 0 0)).far (a := ⟨w1.heap.size, 2, none⟩) (show w.heap.size + 1 + 1 + 1 ≠ w1.heap.size by omega) (.slice none 0 0))
  have hB3 : Below w.heap.size w w3 := by
    rw [← hw3]
    exact below_put3 hB2 (show w.heap.size ≤ w1.heap.size by omega) (.int .i64 0) (.slice none 0 0) (.slice none 0 0)
  clear hX0 hM0 hR0 hG0 hB0 hD hD2 hD02 x0 x1 x2 x3 x4 x5 m0 m1 m2 m3 hR2 hG2 hB2 hZ2 hlt hsz
  obtain ⟨b0, b1, b2, b3, b4, b5⟩ := hR3.c6
  have f0 := hR3.fz 0
  have f1 := hR3.fz 1
  have f2 := hR3.fz 2
  have f3 := hR3.fz 3
  have f4 := hR3.fz 4
  have f5 := hR3.fz 5
  obtain ⟨g0, g1, g2⟩ := hG3.c3
  have j0 := hG3.fz 0
  have j1 := hG3.fz 1
  have j2 := hG3.fz 2
  have hR6 := hR3.put6 (.int .u32 0) (.int .u32 0) (.int .u32 0) (.int .u32 0) (.int .i64 0) (.int .i64 0)
  have hG6 := ((((((hG3.far (a := ⟨w.heap.size + 1 + 1, 0, none⟩) (show w.heap.size + 1 + 1 + 1 ≠ w.heap.size + 1 + 1 by omega) (.int .u32 0)).far (a := ⟨w.heap.size + 1 + 1, 1, none⟩) (show w.heap.size + 1 + 1 + 1 ≠ w.heap.size + 1 + 1 by omega) (.int .u32 0)).far (a := ⟨w.heap.size + 1 + 1, 2, none⟩) (show w.heap.size + 1 + 1 + 1 ≠ w.heap.size + 1 + 1 by omega) (.int .u32 0)).far (a := ⟨w.heap.size + 1 + 1, 3, none⟩) (show w.heap.size + 1 + 1 + 1 ≠ w.heap.size + 1 + 1 by omega) (.int .u32 0)).far (a := ⟨w.heap.size + 1 + 1, 4, none⟩) (show w.heap.size + 1 + 1 + 1 ≠ w.heap.size + 1 + 1 by omega) (.int .i64 0)).far (a := ⟨w.heap.size + 1 + 1, 5, none⟩) (show w.heap.size + 1 + 1 + 1 ≠ w.heap.size + 1 + 1 by omega) (.int .i64 0))
  have hGf := hG6.put3 (.int .i64 0) (.slice none 0 0) (.slice none 0 0)
  have hRf := ((hR6.far (a := ⟨w.heap.size + 1 + 1 + 1, 0, none⟩) (show w.heap.size + 1 + 1 ≠ w.heap.size + 1 + 1 + 1 by omega) (.int .i64 0)).far (a := ⟨w.heap.size + 1 + 1 + 1, 1, none⟩) (show w.heap.size + 1 + 1 ≠ w.heap.size + 1 + 1 + 1 by omega) (.slice none 0 0)).far (a := ⟨w.heap.size + 1 + 1 + 1, 2, none⟩) (show w.heap.size + 1 + 1 ≠ w.heap.size + 1 + 1 + 1 by omega) (.slice none 0 0)
  have hBf := below_put3 (below_put6 hB3 (show w.heap.size ≤ w.heap.size + 1 + 1 by omega) (.int .u32 0) (.int .u32 0) (.int .u32 0) (.int .u32 0) (.int .i64 0) (.int .i64 0)) (show w.heap.size ≤ w.heap.size + 1 + 1 + 1 by omega) (.int .i64 0) (.slice none 0 0) (.slice none 0 0)
  clear hR6 hG6
  go_wp2_with fail
  clear hw2 hw3
  generalize (((((((((w3.setCell ⟨w.heap.size + 1 + 1, 0, none⟩ (.int .u32 0)).setCell ⟨w.heap.size + 1 + 1, 1, none⟩ (.int .u32 0)).setCell ⟨w.heap.size + 1 + 1, 2, none⟩ (.int .u32 0)).setCell ⟨w.heap.size + 1 + 1, 3, none⟩ (.int .u32 0)).setCell ⟨w.heap.size + 1 + 1, 4, none⟩ (.int .i64 0)).setCell ⟨w.heap.size + 1 + 1, 5, none⟩ (.int .i64 0)).setCell ⟨w.heap.size + 1 + 1 + 1, 0, none⟩ (.int .i64 0)).setCell ⟨w.heap.size + 1 + 1 + 1, 1, none⟩ (.slice none 0 0)).setCell ⟨w.heap.size + 1 + 1 + 1, 2, none⟩ (.slice none 0 0)) = wf at *
  obtain ⟨r0, r1, r2, r3, r4, r5⟩ := hRf.c6
  obtain ⟨t0, t1, t2⟩ := hGf.c3
  refine bodyPost_ret (v := .tuple #[.agg #[.int .u32 0, .int .u32 0, .int .u32 0, .int .u32 0, .int .i64 0, .int .i64 0], .agg #[.int .i64 0, .slice none 0 0, .slice none 0 0], .int .i64 2]) (by simp [results, Tryd.results19, go_sem, r0, r1, r2, r3, r4, r5, t0, t1, t2]) rfl ⟨rfl, hBf⟩
set_option maxHeartbeats 4000000 in
set_option maxRecDepth 100000 in
theorem cuse6_used (s msg : D4) (h : Nat) (n : Int) (w : World) (hs : s.ok) (hT : TurnsOk w) (hh : h ≤ 4) (hn : n < 0 ∨ ((2 ^ h : Nat) : Int) ≤ n) :
    Calls Tryd.prog 19 #[.agg #[.int .u32 s.d0, .int .u32 s.d1, .int .u32 s.d2, .int .u32 s.d3, .int .i64 (h : Int), .int .i64 n], .agg #[.int .u32 msg.d0, .int .u32 msg.d1, .int .u32 msg.d2, .int .u32 msg.d3]] w fun e w' => e = .returned (.tuple #[.agg #[.int .u32 0, .int .u32 0, .int .u32 0, .int .u32 0, .int .i64 0, .int .i64 0], .agg #[.int .i64 0, .slice none 0 0, .slice none 0 0], .int .i64 9]) ∧ Below w.heap.size w w' := by
  have HN := Lib.hid hn
  clear hn
  obtain ⟨w0, hw0⟩ : ∃ w0, (((w.alloc (.cells #[.int .u32 s.d0, .int .u32 s.d1, .int .u32 s.d2, .int .u32 s.d3, .int .i64 (h : Int), .int .i64 n] 30)).alloc (.cells #[.int .u32 msg.d0, .int .u32 msg.d1, .int .u32 msg.d2, .int .u32 msg.d3] 24)).alloc (.cells #[.int .u32 0, .int .u32 0, .int .u32 0, .int .u32 0, .int .i64 0, .int .i64 0] 30)).alloc (.cells #[.int .i64 0, .slice none 0 0, .slice none 0 0] 38) = w0 := ⟨_, rfl⟩
  obtain ⟨hX0, hM0, hR0, hG0, hB0⟩ := start_use s msg h n w w0 hw0
  obtain ⟨x0, x1, x2, x3, x4, x5⟩ := hX0.c6
  obtain ⟨m0, m1, m2, m3⟩ := Arr.c4 hM0
  go_enter Tryd.func19, Tryd.ntmps19
  go_wp2_with fail
  clear hw0
  refine (csign6_arg s msg h n w0 hs (hT.below hB0) hh HN.out).mono ?_
  rintro e w1 ⟨rfl, hD⟩
  obtain ⟨w2, hw2⟩ : ∃ w2, w1.alloc (.cells #[.int .i64 0, .slice none 0 0, .slice none 0 0] 38) = w2 := ⟨_, rfl⟩
  have hD2 : Below w1.heap.size w1 w2 := by rw [← hw2]; exact (Below.refl _ _).alloc (Nat.le_refl _) _
  have hD02 := hD.trans (hD2.mono hD.size)
  have hZ2 : Box 38 w1.heap.size [.int .i64 0, .slice none 0 0, .slice none 0 0] w2 := by rw [← hw2]; exact Box.new 38 [.int .i64 0, .slice none 0 0, .slice none 0 0] w1
  have hR2 := hR0.on hD02
  have hG2 := hG0.on hD02
  have hB2 := hB0.trans (hD02.mono hB0.size)
  have hlt := hG0.lt
  have hsz := hD.size
  obtain ⟨z0, z1, z2⟩ := hZ2.c3
  have y0 := hZ2.fz 0
  have y1 := hZ2.fz 1
  have y2 := hZ2.fz 2
  obtain ⟨w3, hw3⟩ : ∃ w3, (((w2.setCell ⟨w1.heap.size, 0, none⟩ (.int .i64 0)).setCell ⟨w1.heap.size, 1, none⟩ (.slice none 0 0)).setCell ⟨w1.heap.size, 2, none⟩ (.slice none 0 0)) = w3 := ⟨_, rfl⟩
  have hR3 : Box 30 (w.heap.size + 1 + 1) [.int .u32 0, .int .u32 0, .int .u32 0, .int .u32 0, .int .i64 0, .int .i64 0] w3 := by
    rw [← hw3]
    exact (((hR2.far (a := ⟨w1.heap.size, 0, none⟩) (show w.heap.size + 1 + 1 ≠ w1.heap.size by omega) (.int .i64 0)).far (a := ⟨w1.heap.size, 1, none⟩) (show w.heap.size + 1 + 1 ≠ w1.heap.size by omega) (.slice none 0 0)).far (a := ⟨w1.heap.size, 2, none⟩) (show w.heap.size + 1 + 1 ≠ w1.heap.size by omega) (.slice none 0 0))
  have hG3 : Box 38 (w.heap.size + 1 + 1 + 1) [.int .i64 0, .slice none 0 0, .slice none 0 0] w3 := by
    rw [← hw3]
    exact (((hG2.far (a := ⟨w1.heap.size, 0, none⟩) (show w.heap.size + 1 + 1 + 1 ≠ w1.heap.size by omega) (.int .i64 0)).far (a := ⟨w1.heap.size, 1, none⟩) (show w.heap.size + 1 + 1 + 1 ≠ w1.heap.size by omega) (.slice none 0 0)).far (a := ⟨w1.heap.size, 2, none⟩) (show w.heap.size + 1 + 1 + 1 ≠ w1.heap.size by omega) (.slice none 0 0))
  have hB3 : Below w.heap.size w w3 := by
    rw [← hw3]
    exact below_put3 hB2 (show w.heap.size ≤ w1.heap.size by omega) (.int .i64 0) (.slice none 0 0) (.slice none 0 0)
  clear hX0 hM0 hR0 hG0 hB0 hD hD2 hD02 x0 x1 x2 x3 x4 x5 m0 m1 m2 m3 hR2 hG2 hB2 hZ2 hlt hsz
  obtain ⟨b0, b1, b2, b3, b4, b5⟩ := hR3.c6
  have f0 := hR3.fz 0
  have f1 := hR3.fz 1
  have f2 := hR3.fz 2
  have f3 := hR3.fz 3
  have f4 := hR3.fz 4
  have f5 := hR3.fz 5
  obtain ⟨g0, g1, g2⟩ := hG3.c3
  have j0 := hG3.fz 0
  have j1 := hG3.fz 1
  have j2 := hG3.fz 2
  have hR6 := hR3.put6 (.int .u32 0) (.int .u32 0) (.int .u32 0) (.int .u32 0) (.int .i64 0) (.int .i64 0)
  have hG6 := ((((((hG3.far (a := ⟨w.heap.size + 1 + 1, 0, none⟩) (show w.heap.size + 1 + 1 + 1 ≠ w.heap.size + 1 + 1 by omega) (.int .u32 0)).far (a := ⟨w.heap.size + 1 + 1, 1, none⟩) (show w.heap.size + 1 + 1 + 1 ≠ w.heap.size + 1 + 1 by omega) (.int .u32 0)).far (a := ⟨w.heap.size + 1 + 1, 2, none⟩) (show w.heap.size + 1 + 1 + 1 ≠ w.heap.size + 1 + 1 by omega) (.int .u32 0)).far (a := ⟨w.heap.size + 1 + 1, 3, none⟩) (show w.heap.size + 1 + 1 + 1 ≠ w.heap.size + 1 + 1 by omega) (.int .u32 0)).far (a := ⟨w.heap.size + 1 + 1, 4, none⟩) (show w.heap.size + 1 + 1 + 1 ≠ w.heap.size + 1 + 1 by omega) (.int .i64 0)).far (a := ⟨w.heap.size + 1 + 1, 5, none⟩) (show w.heap.size + 1 + 1 + 1 ≠ w.heap.size + 1 + 1 by omega) (.int .i64 0))
  have hGf := hG6.put3 (.int .i64 0) (.slice none 0 0) (.slice none 0 0)
  have hRf := ((hR6.far (a := ⟨w.heap.size + 1 + 1 + 1, 0, none⟩) (show w.heap.size + 1 + 1 ≠ w.heap.size + 1 + 1 + 1 by omega) (.int .i64 0)).far (a := ⟨w.heap.size + 1 + 1 + 1, 1, none⟩) (show w.heap.size + 1 + 1 ≠ w.heap.size + 1 + 1 + 1 by omega) (.slice none 0 0)).far (a := ⟨w.heap.size + 1 + 1 + 1, 2, none⟩) (show w.heap.size + 1 + 1 ≠ w.heap.size + 1 + 1 + 1 by omega) (.slice none 0 0)
  have hBf := below_put3 (below_put6 hB3 (show w.heap.size ≤ w.heap.size + 1 + 1 by omega) (.int .u32 0) (.int .u32 0) (.int .u32 0) (.int .u32 0) (.int .i64 0) (.int .i64 0)) (show w.heap.size ≤ w.heap.size + 1 + 1 + 1 by omega) (.int .i64 0) (.slice none 0 0) (.slice none 0 0)
  clear hR6 hG6
  go_wp2_with fail
  clear hw2 hw3
  generalize (((((((((w3.setCell ⟨w.heap.size + 1 + 1, 0, none⟩ (.int .u32 0)).setCell ⟨w.heap.size + 1 + 1, 1, none⟩ (.int .u32 0)).setCell ⟨w.heap.size + 1 + 1, 2, none⟩ (.int .u32 0)).setCell ⟨w.heap.size + 1 + 1, 3, none⟩ (.int .u32 0)).setCell ⟨w.heap.size + 1 + 1, 4, none⟩ (.int .i64 0)).setCell ⟨w.heap.size + 1 + 1, 5, none⟩ (.int .i64 0)).setCell ⟨w.heap.size + 1 + 1 + 1, 0, none⟩ (.int .i64 0)).setCell ⟨w.heap.size + 1 + 1 + 1, 1, none⟩ (.slice none 0 0)).setCell ⟨w.heap.size + 1 + 1 + 1, 2, none⟩ (.slice none 0 0)) = wf at *
  obtain ⟨r0, r1, r2, r3, r4, r5⟩ := hRf.c6
  obtain ⟨t0, t1, t2⟩ := hGf.c3
  refine bodyPost_ret (v := .tuple #[.agg #[.int .u32 0, .int .u32 0, .int .u32 0, .int .u32 0, .int .i64 0, .int .i64 0], .agg #[.int .i64 0, .slice none 0 0, .slice none 0 0], .int .i64 9]) (by simp [results, Tryd.results19, go_sem, r0, r1, r2, r3, r4, r5, t0, t1, t2]) rfl ⟨rfl, hBf⟩
set_option maxHeartbeats 4000000 in
set_option maxRecDepth 100000 in
theorem cuse6_yes (s msg : D4) (h n : Nat) (L Q : List D4) (w : World) (hs : s.ok) (hT : TurnsOk w) (hmo : msg.ok) (hh : h ≤ 4) (hn : n < 2 ^ h) (hL : signL (seedK s n) msg = L) (hQ : pathK s h n = Q) (QN : Nat) (hQN : Q.length = QN) :
    Calls Tryd.prog 19 #[.agg #[.int .u32 s.d0, .int .u32 s.d1, .int .u32 s.d2, .int .u32 s.d3, .int .i64 (h : Int), .int .i64 (n : Int)], .agg #[.int .u32 msg.d0, .int .u32 msg.d1, .int .u32 msg.d2, .int .u32 msg.d3]] w fun e w' => ∃ g p' c', e = .returned (.tuple #[.agg #[.int .u32 s.d0, .int .u32 s.d1, .int .u32 s.d2, .int .u32 s.d3, .int .i64 (h : Int), .int .i64 ((n : Int) + 1)], .agg #[.int .i64 (n : Int), .slice (some ⟨g, 0, none⟩) 35 35, .slice p' QN c'], .int .i64 0]) ∧ w.heap.size ≤ g ∧ RdL w' g 0 L ∧ OwnsD w.heap.size (.slice p' QN c') Q w' ∧ Below w.heap.size w w' := by
  have hn16 : n < 16 := Nat.lt_of_lt_of_le hn (pow_le16 (Nat.le_refl _) hh)
  have HN := Lib.hid hn
  have HL := Lib.hid hL
  have HQ := Lib.hid hQ
  have HQN := Lib.hid hQN
  clear hn hL hQ hQN
  obtain ⟨w0, hw0⟩ : ∃ w0, (((w.alloc (.cells #[.int .u32 s.d0, .int .u32 s.d1, .int .u32 s.d2, .int .u32 s.d3, .int .i64 (h : Int), .int .i64 (n : Int)] 30)).alloc (.cells #[.int .u32 msg.d0, .int .u32 msg.d1, .int .u32 msg.d2, .int .u32 msg.d3] 24)).alloc (.cells #[.int .u32 0, .int .u32 0, .int .u32 0, .int .u32 0, .int .i64 0, .int .i64 0] 30)).alloc (.cells #[.int .i64 0, .slice none 0 0, .slice none 0 0] 38) = w0 := ⟨_, rfl⟩
  obtain ⟨hX0, hM0, hR0, hG0, hB0⟩ := start_use s msg h n w w0 hw0
  obtain ⟨x0, x1, x2, x3, x4, x5⟩ := hX0.c6
  obtain ⟨m0, m1, m2, m3⟩ := Arr.c4 hM0
  have hg0 := hG0.lt
  go_enter Tryd.func19, Tryd.ntmps19
  go_wp2_with fail
  clear hw0
  refine (csign6_yes s msg h n L Q w0 hs (hT.below hB0) hmo hh HN.out HL.out HQ.out QN HQN.out).mono ?_
  rintro e w1 ⟨g, pv, cv, rfl, hgB, hU, hV, hD⟩
  obtain ⟨w2, hw2⟩ : ∃ w2, w1.alloc (.cells #[.int .i64 (n : Int), .slice (some ⟨g, 0, none⟩) 35 35, .slice pv QN cv] 38) = w2 := ⟨_, rfl⟩
  have hY2 : Box 38 w1.heap.size [.int .i64 (n : Int), .slice (some ⟨g, 0, none⟩) 35 35, .slice pv QN cv] w2 := by rw [← hw2]; exact Box.new 38 [.int .i64 (n : Int), .slice (some ⟨g, 0, none⟩) 35 35, .slice pv QN cv] w1
  have hD2 : Below w1.heap.size w1 w2 := by rw [← hw2]; exact (Below.refl _ _).alloc (Nat.le_refl _) _
  have hD02 := hD.trans (hD2.mono hD.size)
  have hX2 := hX0.on hD02
  have hR2 := hR0.on hD02
  have hG2 := hG0.on hD02
  have hU2 := hU.on hD2
  have hV2 := hV.on hD2
  have hB2 := hB0.trans (hD02.mono hB0.size)
  have hsz := hD.size
  clear hX0 hM0 hR0 hG0 hB0 hD hD2 hD02 x0 x1 x2 x3 x4 x5 m0 m1 m2 m3 hU hV
  have hX3 := hX2.set 5 (.int .i64 ((n : Int) + 1))
  have hY3 := hY2.far (a := ⟨w.heap.size, 5, none⟩) (show w1.heap.size ≠ w.heap.size by omega) (.int .i64 ((n : Int) + 1))
  have hR3 := hR2.far (a := ⟨w.heap.size, 5, none⟩) (show w.heap.size + 1 + 1 ≠ w.heap.size by omega) (.int .i64 ((n : Int) + 1))
  have hG3 := hG2.far (a := ⟨w.heap.size, 5, none⟩) (show w.heap.size + 1 + 1 + 1 ≠ w.heap.size by omega) (.int .i64 ((n : Int) + 1))
  have hU3 := hU2.far (a := ⟨w.heap.size, 5, none⟩) (show g ≠ w.heap.size by omega) (.int .i64 ((n : Int) + 1))
  have hV3 := hV2.far (a := ⟨w.heap.size, 5, none⟩) (show w.heap.size < w0.heap.size by omega) (.int .i64 ((n : Int) + 1))
  have hB3 := hB2.setCell (p := ⟨w.heap.size, 5, none⟩) (Nat.le_refl _) (.int .i64 ((n : Int) + 1))
  obtain ⟨x0, x1, x2, x3, x4, x5⟩ := hX2.c6
  have f5 := hX2.fz 5
  go_wp2_with fail
  clear hw2
  generalize w2.setCell ⟨w.heap.size, 5, none⟩ (.int .i64 ((n : Int) + 1)) = w3 at *
  clear x0 x1 x2 x3 x4 x5 f5 hX2 hY2 hR2 hG2 hU2 hV2 hB2
  have hX4 : Box 30 w.heap.size [.int .u32 s.d0, .int .u32 s.d1, .int .u32 s.d2, .int .u32 s.d3, .int .i64 (h : Int), .int .i64 ((n : Int) + 1)] w3.drew := hX3
  have hY4 : Box 38 w1.heap.size [.int .i64 (n : Int), .slice (some ⟨g, 0, none⟩) 35 35, .slice pv QN cv] w3.drew := hY3
  obtain ⟨x0, x1, x2, x3, x4, x5⟩ := hX4.c6
  obtain ⟨y0, y1, y2⟩ := hY4.c3
  have hR4 : Box 30 (w.heap.size + 1 + 1) [.int .u32 0, .int .u32 0, .int .u32 0, .int .u32 0, .int .i64 0, .int .i64 0] w3.drew := hR3
  have hG4 : Box 38 (w.heap.size + 1 + 1 + 1) [.int .i64 0, .slice none 0 0, .slice none 0 0] w3.drew := hG3
  have hU4 : RdL w3.drew g 0 L := hU3
  have hV4 : OwnsD w0.heap.size (.slice pv QN cv) Q w3.drew := hV3
  have hB4 : Below w.heap.size w w3.drew := hB3.drew
  obtain ⟨b0, b1, b2, b3, b4, b5⟩ := hR4.c6
  have f0 := hR4.fz 0
  have f1 := hR4.fz 1
  have f2 := hR4.fz 2
  have f3 := hR4.fz 3
  have f4 := hR4.fz 4
  have f5 := hR4.fz 5
  obtain ⟨g0, g1, g2⟩ := hG4.c3
  have j0 := hG4.fz 0
  have j1 := hG4.fz 1
  have j2 := hG4.fz 2
  obtain ⟨b0', b1', b2', b3', b4', b5'⟩ := hR3.c6
  have f0' := hR3.fz 0
  have f1' := hR3.fz 1
  have f2' := hR3.fz 2
  have f3' := hR3.fz 3
  have f4' := hR3.fz 4
  have f5' := hR3.fz 5
  obtain ⟨g0', g1', g2'⟩ := hG3.c3
  have j0' := hG3.fz 0
  have j1' := hG3.fz 1
  have j2' := hG3.fz 2
  obtain ⟨x0', x1', x2', x3', x4', x5'⟩ := hX3.c6
  obtain ⟨y0', y1', y2'⟩ := hY3.c3
  go_region
  clear hR4 hG4 hU4 hV4 hB4 hX4 hY4 b0 b1 b2 b3 b4 b5 f0 f1 f2 f3 f4 f5 g0 g1 g2 j0 j1 j2 x0 x1 x2 x3 x4 x5 y0 y1 y2
  clear b0' b1' b2' b3' b4' b5' f0' f1' f2' f3' f4' f5' g0' g1' g2' j0' j1' j2' x0' x1' x2' x3' x4' x5' y0' y1' y2'
  have hR6 := hR3.put6 (.int .u32 s.d0) (.int .u32 s.d1) (.int .u32 s.d2) (.int .u32 s.d3) (.int .i64 (h : Int)) (.int .i64 ((n : Int) + 1))
  have hG6 := ((((((hG3.far (a := ⟨w.heap.size + 1 + 1, 0, none⟩) (show w.heap.size + 1 + 1 + 1 ≠ w.heap.size + 1 + 1 by omega) (.int .u32 s.d0)).far (a := ⟨w.heap.size + 1 + 1, 1, none⟩) (show w.heap.size + 1 + 1 + 1 ≠ w.heap.size + 1 + 1 by omega) (.int .u32 s.d1)).far (a := ⟨w.heap.size + 1 + 1, 2, none⟩) (show w.heap.size + 1 + 1 + 1 ≠ w.heap.size + 1 + 1 by omega) (.int .u32 s.d2)).far (a := ⟨w.heap.size + 1 + 1, 3, none⟩) (show w.heap.size + 1 + 1 + 1 ≠ w.heap.size + 1 + 1 by omega) (.int .u32 s.d3)).far (a := ⟨w.heap.size + 1 + 1, 4, none⟩) (show w.heap.size + 1 + 1 + 1 ≠ w.heap.size + 1 + 1 by omega) (.int .i64 (h : Int))).far (a := ⟨w.heap.size + 1 + 1, 5, none⟩) (show w.heap.size + 1 + 1 + 1 ≠ w.heap.size + 1 + 1 by omega) (.int .i64 ((n : Int) + 1)))
  have hGf := hG6.put3 (.int .i64 (n : Int)) (.slice (some ⟨g, 0, none⟩) 35 35) (.slice pv QN cv)
  have hRf := (((hR6.far (a := ⟨w.heap.size + 1 + 1 + 1, 0, none⟩) (show w.heap.size + 1 + 1 ≠ w.heap.size + 1 + 1 + 1 by omega) (.int .i64 (n : Int))).far (a := ⟨w.heap.size + 1 + 1 + 1, 1, none⟩) (show w.heap.size + 1 + 1 ≠ w.heap.size + 1 + 1 + 1 by omega) (.slice (some ⟨g, 0, none⟩) 35 35)).far (a := ⟨w.heap.size + 1 + 1 + 1, 2, none⟩) (show w.heap.size + 1 + 1 ≠ w.heap.size + 1 + 1 + 1 by omega) (.slice pv QN cv))
  have hUf := (((((((((hU3.far (a := ⟨w.heap.size + 1 + 1, 0, none⟩) (show g ≠ w.heap.size + 1 + 1 by omega) (.int .u32 s.d0)).far (a := ⟨w.heap.size + 1 + 1, 1, none⟩) (show g ≠ w.heap.size + 1 + 1 by omega) (.int .u32 s.d1)).far (a := ⟨w.heap.size + 1 + 1, 2, none⟩) (show g ≠ w.heap.size + 1 + 1 by omega) (.int .u32 s.d2)).far (a := ⟨w.heap.size + 1 + 1, 3, none⟩) (show g ≠ w.heap.size + 1 + 1 by omega) (.int .u32 s.d3)).far (a := ⟨w.heap.size + 1 + 1, 4, none⟩) (show g ≠ w.heap.size + 1 + 1 by omega) (.int .i64 (h : Int))).far (a := ⟨w.heap.size + 1 + 1, 5, none⟩) (show g ≠ w.heap.size + 1 + 1 by omega) (.int .i64 ((n : Int) + 1))).far (a := ⟨w.heap.size + 1 + 1 + 1, 0, none⟩) (show g ≠ w.heap.size + 1 + 1 + 1 by omega) (.int .i64 (n : Int))).far (a := ⟨w.heap.size + 1 + 1 + 1, 1, none⟩) (show g ≠ w.heap.size + 1 + 1 + 1 by omega) (.slice (some ⟨g, 0, none⟩) 35 35)).far (a := ⟨w.heap.size + 1 + 1 + 1, 2, none⟩) (show g ≠ w.heap.size + 1 + 1 + 1 by omega) (.slice pv QN cv))
  have hVf := (((((((((hV3.far (a := ⟨w.heap.size + 1 + 1, 0, none⟩) (show w.heap.size + 1 + 1 < w0.heap.size by omega) (.int .u32 s.d0)).far (a := ⟨w.heap.size + 1 + 1, 1, none⟩) (show w.heap.size + 1 + 1 < w0.heap.size by omega) (.int .u32 s.d1)).far (a := ⟨w.heap.size + 1 + 1, 2, none⟩) (show w.heap.size + 1 + 1 < w0.heap.size by omega) (.int .u32 s.d2)).far (a := ⟨w.heap.size + 1 + 1, 3, none⟩) (show w.heap.size + 1 + 1 < w0.heap.size by omega) (.int .u32 s.d3)).far (a := ⟨w.heap.size + 1 + 1, 4, none⟩) (show w.heap.size + 1 + 1 < w0.heap.size by omega) (.int .i64 (h : Int))).far (a := ⟨w.heap.size + 1 + 1, 5, none⟩) (show w.heap.size + 1 + 1 < w0.heap.size by omega) (.int .i64 ((n : Int) + 1))).far (a := ⟨w.heap.size + 1 + 1 + 1, 0, none⟩) (show w.heap.size + 1 + 1 + 1 < w0.heap.size by omega) (.int .i64 (n : Int))).far (a := ⟨w.heap.size + 1 + 1 + 1, 1, none⟩) (show w.heap.size + 1 + 1 + 1 < w0.heap.size by omega) (.slice (some ⟨g, 0, none⟩) 35 35)).far (a := ⟨w.heap.size + 1 + 1 + 1, 2, none⟩) (show w.heap.size + 1 + 1 + 1 < w0.heap.size by omega) (.slice pv QN cv))
  have hBf := below_put3 (below_put6 hB3 (show w.heap.size ≤ w.heap.size + 1 + 1 by omega) (.int .u32 s.d0) (.int .u32 s.d1) (.int .u32 s.d2) (.int .u32 s.d3) (.int .i64 (h : Int)) (.int .i64 ((n : Int) + 1))) (show w.heap.size ≤ w.heap.size + 1 + 1 + 1 by omega) (.int .i64 (n : Int)) (.slice (some ⟨g, 0, none⟩) 35 35) (.slice pv QN cv)
  clear hX3 hY3 hR3 hG3 hU3 hV3 hB3 hR6 hG6
  generalize (((((((((w3.setCell ⟨w.heap.size + 1 + 1, 0, none⟩ (.int .u32 s.d0)).setCell ⟨w.heap.size + 1 + 1, 1, none⟩ (.int .u32 s.d1)).setCell ⟨w.heap.size + 1 + 1, 2, none⟩ (.int .u32 s.d2)).setCell ⟨w.heap.size + 1 + 1, 3, none⟩ (.int .u32 s.d3)).setCell ⟨w.heap.size + 1 + 1, 4, none⟩ (.int .i64 (h : Int))).setCell ⟨w.heap.size + 1 + 1, 5, none⟩ (.int .i64 ((n : Int) + 1))).setCell ⟨w.heap.size + 1 + 1 + 1, 0, none⟩ (.int .i64 (n : Int))).setCell ⟨w.heap.size + 1 + 1 + 1, 1, none⟩ (.slice (some ⟨g, 0, none⟩) 35 35)).setCell ⟨w.heap.size + 1 + 1 + 1, 2, none⟩ (.slice pv QN cv)) = wf at *
  have hR5 : Box 30 (w.heap.size + 1 + 1) [.int .u32 s.d0, .int .u32 s.d1, .int .u32 s.d2, .int .u32 s.d3, .int .i64 (h : Int), .int .i64 ((n : Int) + 1)] wf.drew := hRf
  have hG5 : Box 38 (w.heap.size + 1 + 1 + 1) [.int .i64 (n : Int), .slice (some ⟨g, 0, none⟩) 35 35, .slice pv QN cv] wf.drew := hGf
  obtain ⟨r0, r1, r2, r3, r4, r5⟩ := hR5.c6
  obtain ⟨t0, t1, t2⟩ := hG5.c3
  have hUd : RdL wf.drew g 0 L := hUf
  have hVd : OwnsD w0.heap.size (.slice pv QN cv) Q wf.drew := hVf
  go_wp2_with fail
  refine bodyPost_ret (v := .tuple #[.agg #[.int .u32 s.d0, .int .u32 s.d1, .int .u32 s.d2, .int .u32 s.d3, .int .i64 (h : Int), .int .i64 ((n : Int) + 1)], .agg #[.int .i64 (n : Int), .slice (some ⟨g, 0, none⟩) 35 35, .slice pv QN cv], .int .i64 0]) (by simp [results, Tryd.results19, go_sem, r0, r1, r2, r3, r4, r5, t0, t1, t2]) rfl ⟨g, pv, cv, rfl, by omega, hUd, hVd.lower (by omega), hBf.drew⟩
end Go.Proofs.YtdphhpmkcalahaaDoor
