/-
  The document's Use of layer 6 where the place was used, and where it is free (written by gen_use2.py).
-/
import Derived.Test.YtdphhpmkcalahaaDoorKyE
namespace Go.Proofs.YtdphhpmkcalahaaDoor
open Go.RowKit

set_option maxHeartbeats 4000000 in
set_option maxRecDepth 100000 in
theorem ruse6_used (s msg : D4) (h : Nat) (n : Int) (w : World) (hs : s.ok) (hh : h ≤ 4) (hn : n < 0 ∨ ((2 ^ h : Nat) : Int) ≤ n) :
    Calls Tryd.prog 20 #[.agg #[.int .u32 s.d0, .int .u32 s.d1, .int .u32 s.d2, .int .u32 s.d3, .int .i64 (h : Int), .int .i64 n], .agg #[.int .u32 msg.d0, .int .u32 msg.d1, .int .u32 msg.d2, .int .u32 msg.d3]] w fun e w' => e = .returned (.tuple #[.agg #[.int .u32 0, .int .u32 0, .int .u32 0, .int .u32 0, .int .i64 0, .int .i64 0], .agg #[.int .i64 0, .slice none 0 0, .slice none 0 0], .int .i64 9]) ∧ Below w.heap.size w w' := by
  have hd1 : decide ((h : Int) < 0) = false := by simp
  have hd2 : decide ((4 : Int) < (h : Int)) = false := by simp; omega
  have HN := Lib.hid hn
  clear hn
  obtain ⟨w0, hw0⟩ : ∃ w0, (((w.alloc (.cells #[.int .u32 s.d0, .int .u32 s.d1, .int .u32 s.d2, .int .u32 s.d3, .int .i64 (h : Int), .int .i64 n] 30)).alloc (.cells #[.int .u32 msg.d0, .int .u32 msg.d1, .int .u32 msg.d2, .int .u32 msg.d3] 24)).alloc (.cells #[.int .u32 0, .int .u32 0, .int .u32 0, .int .u32 0, .int .i64 0, .int .i64 0] 30)).alloc (.cells #[.int .i64 0, .slice none 0 0, .slice none 0 0] 38) = w0 := ⟨_, rfl⟩
  obtain ⟨hX0, hM0, hR0, hG0, hB0⟩ := start_use s msg h n w w0 hw0
  obtain ⟨x0, x1, x2, x3, x4, x5⟩ := hX0.c6
  obtain ⟨m0, m1, m2, m3⟩ := Arr.c4 hM0
  go_enter Tryd.func20, Tryd.ntmps20
  go_wp2_with fail
  clear hw0
  refine (rsign6_arg s msg h n w0 hs hh HN.out).mono ?_
  rintro e w1 ⟨rfl, hD⟩
  obtain ⟨w2, hw2⟩ : ∃ w2, w1.alloc (.cells #[.int .i64 0, .slice none 0 0, .slice none 0 0] 38) = w2 := ⟨_, rfl⟩
  have hD2 : Below w1.heap.size w1 w2 := by rw [← hw2]; exact (Below.refl _ _).alloc (Nat.le_refl _) _
  have hD02 := hD.trans (hD2.mono hD.size)
  have hZ2 : Box 38 w1.heap.size [.int .i64 0, .slice none 0 0, .slice none 0 0] w2 := by rw [← hw2]; exact Box.new 38 [.int .i64 0, .slice none 0 0, .slice none 0 0] w1
  have hR2 := hR0.on hD02
  have hG2 := hG0.on hD02
  have hB2 := hB0.trans (hD02.mono hB0.size)
  have hlt := hG0.lt
  have hsz := hD.size
  obtain ⟨z0, z1, z2⟩ := hZ2.c3
  have y0 := hZ2.fz 0
  have y1 := hZ2.fz 1
  have y2 := hZ2.fz 2
  obtain ⟨w3, hw3⟩ : ∃ w3, (((w2.setCell ⟨w1.heap.size, 0, none⟩ (.int .i64 0)).setCell ⟨w1.heap.size, 1, none⟩ (.slice none 0 0)).setCell ⟨w1.heap.size, 2, none⟩ (.slice none 0 0)) = w3 := ⟨_, rfl⟩
  have hR3 : Box 30 (w.heap.size + 1 + 1) [.int .u32 0, .int .u32 0, .int .u32 0, .int .u32 0, .int .i64 0, .int .i64 0] w3 := by
    rw [← hw3]
    exact (((hR2.far (a := ⟨w1.heap.size, 0, none⟩) (show w.heap.size + 1 + 1 ≠ w1.heap.size by omega) (.int .i64 0)).far (a := ⟨w1.heap.size, 1, none⟩) (show w.heap.size + 1 + 1 ≠ w1.heap.size by omega) (.slice none 0 0)).far (a := ⟨w1.heap.size, 2, none⟩) (show w.heap.size + 1 + 1 ≠ w1.heap.size by omega) (.slice none 0 0))
  have hG3 : Box 38 (w.heap.size + 1 + 1 + 1) [.int .i64 0, .slice none 0 0, .slice none 0 0] w3 := by
    rw [← hw3]
    exact (((hG2.far (a := ⟨w1.heap.size, 0, none⟩) (show w.heap.size + 1 + 1 + 1 ≠ w1.heap.size by omega) (.int .i64 0)).far (a := ⟨w1.heap.size, 1, none⟩) (show w.heap.size + 1 + 1 + 1 ≠ w1.heap.size by omega) (.slice none 0 0)).far (a := ⟨w1.heap.size, 2, none⟩) (show w.heap.size + 1 + 1 + 1 ≠ w1.heap.size by omega) (.slice none 0 0))
  have hB3 : Below w.heap.size w w3 := by
    rw [← hw3]
    exact below_put3 hB2 (show w.heap.size ≤ w1.heap.size by omega) (.int .i64 0) (.slice none 0 0) (.slice none 0 0)
  clear hX0 hM0 hR0 hG0 hB0 hD hD2 hD02 x0 x1 x2 x3 x4 x5 m0 m1 m2 m3 hR2 hG2 hB2 hZ2 hlt hsz
  obtain ⟨b0, b1, b2, b3, b4, b5⟩ := hR3.c6
  have f0 := hR3.fz 0
  have f1 := hR3.fz 1
  have f2 := hR3.fz 2
  have f3 := hR3.fz 3
  have f4 := hR3.fz 4
  have f5 := hR3.fz 5
  obtain ⟨g0, g1, g2⟩ := hG3.c3
  have j0 := hG3.fz 0
  have j1 := hG3.fz 1
  have j2 := hG3.fz 2
  have hR6 := hR3.put6 (.int .u32 0) (.int .u32 0) (.int .u32 0) (.int .u32 0) (.int .i64 0) (.int .i64 0)
  have hG6 := ((((((hG3.far (a := ⟨w.heap.size + 1 + 1, 0, none⟩) (show w.heap.size + 1 + 1 + 1 ≠ w.heap.size + 1 + 1 by omega) (.int .u32 0)).far (a := ⟨w.heap.size + 1 + 1, 1, none⟩) (show w.heap.size + 1 + 1 + 1 ≠ w.heap.size + 1 + 1 by omega) (.int .u32 0)).far (a := ⟨w.heap.size + 1 + 1, 2, none⟩) (show w.heap.size + 1 + 1 + 1 ≠ w.heap.size + 1 + 1 by omega) (.int .u32 0)).far (a := ⟨w.heap.size + 1 + 1, 3, none⟩) (show w.heap.size + 1 + 1 + 1 ≠ w.heap.size + 1 + 1 by omega) (.int .u32 0)).far (a := ⟨w.heap.size + 1 + 1, 4, none⟩) (show w.heap.size + 1 + 1 + 1 ≠ w.heap.size + 1 + 1 by omega) (.int .i64 0)).far (a := ⟨w.heap.size + 1 + 1, 5, none⟩) (show w.heap.size + 1 + 1 + 1 ≠ w.heap.size + 1 + 1 by omega) (.int .i64 0))
  have hGf := hG6.put3 (.int .i64 0) (.slice none 0 0) (.slice none 0 0)
  have hRf := ((hR6.far (a := ⟨w.heap.size + 1 + 1 + 1, 0, none⟩) (show w.heap.size + 1 + 1 ≠ w.heap.size + 1 + 1 + 1 by omega) (.int .i64 0)).far (a := ⟨w.heap.size + 1 + 1 + 1, 1, none⟩) (show w.heap.size + 1 + 1 ≠ w.heap.size + 1 + 1 + 1 by omega) (.slice none 0 0)).far (a := ⟨w.heap.size + 1 + 1 + 1, 2, none⟩) (show w.heap.size + 1 + 1 ≠ w.heap.size + 1 + 1 + 1 by omega) (.slice none 0 0)
  have hBf := below_put3 (below_put6 hB3 (show w.heap.size ≤ w.heap.size + 1 + 1 by omega) (.int .u32 0) (.int .u32 0) (.int .u32 0) (.int .u32 0) (.int .i64 0) (.int .i64 0)) (show w.heap.size ≤ w.heap.size + 1 + 1 + 1 by omega) (.int .i64 0) (.slice none 0 0) (.slice none 0 0)
  clear hR6 hG6
  go_wp2_with fail
  clear hw2 hw3
  generalize (((((((((w3.setCell ⟨w.heap.size + 1 + 1, 0, none⟩ (.int .u32 0)).setCell ⟨w.heap.size + 1 + 1, 1, none⟩ (.int .u32 0)).setCell ⟨w.heap.size + 1 + 1, 2, none⟩ (.int .u32 0)).setCell ⟨w.heap.size + 1 + 1, 3, none⟩ (.int .u32 0)).setCell ⟨w.heap.size + 1 + 1, 4, none⟩ (.int .i64 0)).setCell ⟨w.heap.size + 1 + 1, 5, none⟩ (.int .i64 0)).setCell ⟨w.heap.size + 1 + 1 + 1, 0, none⟩ (.int .i64 0)).setCell ⟨w.heap.size + 1 + 1 + 1, 1, none⟩ (.slice none 0 0)).setCell ⟨w.heap.size + 1 + 1 + 1, 2, none⟩ (.slice none 0 0)) = wf at *
  obtain ⟨r0, r1, r2, r3, r4, r5⟩ := hRf.c6
  obtain ⟨t0, t1, t2⟩ := hGf.c3
  refine bodyPost_ret (v := .tuple #[.agg #[.int .u32 0, .int .u32 0, .int .u32 0, .int .u32 0, .int .i64 0, .int .i64 0], .agg #[.int .i64 0, .slice none 0 0, .slice none 0 0], .int .i64 9]) (by simp [results, Tryd.results20, go_sem, r0, r1, r2, r3, r4, r5, t0, t1, t2]) rfl ⟨rfl, hBf⟩

end Go.Proofs.YtdphhpmkcalahaaDoor
