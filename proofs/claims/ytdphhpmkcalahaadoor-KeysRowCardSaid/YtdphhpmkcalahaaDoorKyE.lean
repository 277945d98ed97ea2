/-
  The document's Same and Use of layer 6 (written by gen_use.py).
-/
import Derived.Test.YtdphhpmkcalahaaDoorKyM
namespace Go.Proofs.YtdphhpmkcalahaaDoor
open Go.RowKit

theorem start2s (i k : Int) (p q p' q' : Option Addr) (n c m d n' c' m' d' : Nat) (w w0 : World) (h : (w.alloc (.cells #[.int .i64 i, .slice p n c, .slice q m d] 38)).alloc (.cells #[.int .i64 k, .slice p' n' c', .slice q' m' d'] 38) = w0) :
    Box 38 w.heap.size [.int .i64 i, .slice p n c, .slice q m d] w0 ∧ Box 38 (w.heap.size + 1) [.int .i64 k, .slice p' n' c', .slice q' m' d'] w0 ∧ Below w.heap.size w w0 := by
  subst h
  obtain ⟨w1, h1⟩ : ∃ w1, w.alloc (.cells #[.int .i64 i, .slice p n c, .slice q m d] 38) = w1 := ⟨_, rfl⟩
  have hX : Box 38 w.heap.size [.int .i64 i, .slice p n c, .slice q m d] w1 := by rw [← h1]; exact Box.new 38 [.int .i64 i, .slice p n c, .slice q m d] w
  have a1 : w1.heap.size = w.heap.size + 1 := by rw [← h1]; simp
  have hB : Below w.heap.size w w1 := by rw [← h1]; exact (Below.refl _ _).alloc (Nat.le_refl _) _
  rw [h1]
  refine ⟨hX.al _, ?_, hB.alloc (by omega) _⟩
  rw [← a1]
  exact Box.new 38 [.int .i64 k, .slice p' n' c', .slice q' m' d'] w1
set_option maxHeartbeats 4000000 in
set_option maxRecDepth 100000 in
theorem rsame6_any (i k : Int) (S Q S' Q' : List D4) (g1 g2 g3 : Bool) (p q p' q' : Option Addr) (n c m d n' c' m' d' : Nat) (w : World)
    (hn : n = S.length) (hm : m = Q.length) (hn' : n' = S'.length) (hm' : m' = Q'.length) (hS : RdS w p S) (hQ : RdS w q Q) (hS' : RdS w p' S') (hQ' : RdS w q' Q') (hc : n ≤ c) (hcm : c ≤ maxLen) (hd : m ≤ d) (hdm : d ≤ maxLen) (hc' : n' ≤ c') (hcm' : c' ≤ maxLen) (hd' : m' ≤ d') (hdm' : d' ≤ maxLen)
    (h1 : decide (i = k) = g1) (h2 : decide (S = S') = g2) (h3 : decide (Q = Q') = g3) :
    Calls Tryd.prog 16 #[.agg #[.int .i64 i, .slice p n c, .slice q m d], .agg #[.int .i64 k, .slice p' n' c', .slice q' m' d']] w fun e w' => e = .returned (.bool (g1 && (g2 && g3))) ∧ Below w.heap.size w w' := by
  have HN := Lib.hid hn
  have HM := Lib.hid hm
  have HN' := Lib.hid hn'
  have HM' := Lib.hid hm'
  have H2 := Lib.hid h2
  have H3 := Lib.hid h3
  have hik : (i == k) = g1 := by rw [← h1]; apply Bool.eq_iff_iff.mpr; simp
  clear hn hm hn' hm' h1 h2 h3
  obtain ⟨w0, hw0⟩ : ∃ w0, (w.alloc (.cells #[.int .i64 i, .slice p n c, .slice q m d] 38)).alloc (.cells #[.int .i64 k, .slice p' n' c', .slice q' m' d'] 38) = w0 := ⟨_, rfl⟩
  obtain ⟨hX, hY, hB⟩ := start2s i k p q p' q' n c m d n' c' m' d' w w0 hw0
  have hS0 := hS.on hB
  have hQ0 := hQ.on hB
  have hS0' := hS'.on hB
  have hQ0' := hQ'.on hB
  obtain ⟨b0, b1, b2⟩ := hX.c3
  obtain ⟨e0, e1, e2⟩ := hY.c3
  clear hS hQ hS' hQ'
  go_enter Tryd.func16, Tryd.ntmps16
  cases g1
  · go_wp2_with fail
    go_ret
    exact ⟨rfl, hB⟩
  · go_wp2_with fail
    clear hw0
    refine (rlist_val S S' g2 p p' n n' c c' w0 HN.out HN'.out hS0 hS0' hc hcm hc' hcm' H2.out).mono ?_
    rintro e w1 ⟨rfl, hD⟩
    have hX1 := hX.on hD
    have hY1 := hY.on hD
    have hQ1 := hQ0.on hD
    have hQ1' := hQ0'.on hD
    have hB1 := hB.trans (hD.mono hB.size)
    clear hX hY b0 b1 b2 e0 e1 e2 hS0 hQ0 hS0' hQ0' hB
    obtain ⟨b0, b1, b2⟩ := hX1.c3
    obtain ⟨e0, e1, e2⟩ := hY1.c3
    cases g2
    · go_wp2_with fail
      go_ret
      exact ⟨rfl, hB1⟩
    · go_wp2_with fail
      refine (rlist_val Q Q' g3 q q' m m' d d' w1 HM.out HM'.out hQ1 hQ1' hd hdm hd' hdm' H3.out).mono ?_
      rintro e w2 ⟨rfl, hE⟩
      go_wp2_with fail
      go_ret
      exact ⟨rfl, hB1.trans (hE.mono hB1.size)⟩

theorem start_use (s msg : D4) (h n : Int) (w w0 : World) (e : (((w.alloc (.cells #[.int .u32 s.d0, .int .u32 s.d1, .int .u32 s.d2, .int .u32 s.d3, .int .i64 h, .int .i64 n] 30)).alloc (.cells #[.int .u32 msg.d0, .int .u32 msg.d1, .int .u32 msg.d2, .int .u32 msg.d3] 24)).alloc (.cells #[.int .u32 0, .int .u32 0, .int .u32 0, .int .u32 0, .int .i64 0, .int .i64 0] 30)).alloc (.cells #[.int .i64 0, .slice none 0 0, .slice none 0 0] 38) = w0) :
    Box 30 w.heap.size [.int .u32 s.d0, .int .u32 s.d1, .int .u32 s.d2, .int .u32 s.d3, .int .i64 h, .int .i64 n] w0 ∧ Arr .u32 24 (w.heap.size + 1) msg.toL w0 ∧ Box 30 (w.heap.size + 1 + 1) [.int .u32 0, .int .u32 0, .int .u32 0, .int .u32 0, .int .i64 0, .int .i64 0] w0 ∧ Box 38 (w.heap.size + 1 + 1 + 1) [.int .i64 0, .slice none 0 0, .slice none 0 0] w0 ∧ Below w.heap.size w w0 := by
  subst e
  obtain ⟨w1, h1⟩ : ∃ w1, w.alloc (.cells #[.int .u32 s.d0, .int .u32 s.d1, .int .u32 s.d2, .int .u32 s.d3, .int .i64 h, .int .i64 n] 30) = w1 := ⟨_, rfl⟩
  have hX : Box 30 w.heap.size [.int .u32 s.d0, .int .u32 s.d1, .int .u32 s.d2, .int .u32 s.d3, .int .i64 h, .int .i64 n] w1 := by rw [← h1]; exact Box.new 30 [.int .u32 s.d0, .int .u32 s.d1, .int .u32 s.d2, .int .u32 s.d3, .int .i64 h, .int .i64 n] w
  have a1 : w1.heap.size = w.heap.size + 1 := by rw [← h1]; simp
  have hB1 : Below w.heap.size w w1 := by rw [← h1]; exact (Below.refl _ _).alloc (Nat.le_refl _) _
  rw [h1]
  obtain ⟨w2, h2⟩ : ∃ w2, w1.alloc (.cells #[.int .u32 msg.d0, .int .u32 msg.d1, .int .u32 msg.d2, .int .u32 msg.d3] 24) = w2 := ⟨_, rfl⟩
  have hM : Arr .u32 24 w1.heap.size msg.toL w2 := by rw [← h2]; exact heap_alloc_new w1 _
  have a2 : w2.heap.size = w.heap.size + 1 + 1 := by rw [← h2]; simp [a1]
  have hB2 : Below w.heap.size w w2 := by rw [← h2]; exact hB1.alloc (by omega) _
  have hX2 : Box 30 w.heap.size [.int .u32 s.d0, .int .u32 s.d1, .int .u32 s.d2, .int .u32 s.d3, .int .i64 h, .int .i64 n] w2 := by rw [← h2]; exact hX.al _
  rw [h2]
  obtain ⟨w3, h3⟩ : ∃ w3, w2.alloc (.cells #[.int .u32 0, .int .u32 0, .int .u32 0, .int .u32 0, .int .i64 0, .int .i64 0] 30) = w3 := ⟨_, rfl⟩
  have hR : Box 30 w2.heap.size [.int .u32 0, .int .u32 0, .int .u32 0, .int .u32 0, .int .i64 0, .int .i64 0] w3 := by rw [← h3]; exact Box.new 30 [.int .u32 0, .int .u32 0, .int .u32 0, .int .u32 0, .int .i64 0, .int .i64 0] w2
  have a3 : w3.heap.size = w.heap.size + 1 + 1 + 1 := by rw [← h3]; simp [a2]
  have hB3 : Below w.heap.size w w3 := by rw [← h3]; exact hB2.alloc (by omega) _
  have hX3 : Box 30 w.heap.size [.int .u32 s.d0, .int .u32 s.d1, .int .u32 s.d2, .int .u32 s.d3, .int .i64 h, .int .i64 n] w3 := by rw [← h3]; exact hX2.al _
  have hM3 : Arr .u32 24 w1.heap.size msg.toL w3 := by rw [← h3]; exact hM.al _
  rw [h3]
  refine ⟨hX3.al _, by rw [← a1]; exact hM3.al _, by rw [← a2]; exact hR.al _, ?_, hB3.alloc (by omega) _⟩
  rw [← a3]
  exact Box.new 38 [.int .i64 0, .slice none 0 0, .slice none 0 0] w3

set_option maxHeartbeats 4000000 in
set_option maxRecDepth 100000 in
theorem ruse6_range (s msg : D4) (h n : Int) (w : World) (hh : h < 0 ∨ 4 < h) :
    Calls Tryd.prog 20 #[.agg #[.int .u32 s.d0, .int .u32 s.d1, .int .u32 s.d2, .int .u32 s.d3, .int .i64 h, .int .i64 n], .agg #[.int .u32 msg.d0, .int .u32 msg.d1, .int .u32 msg.d2, .int .u32 msg.d3]] w fun e w' => e = .returned (.tuple #[.agg #[.int .u32 0, .int .u32 0, .int .u32 0, .int .u32 0, .int .i64 0, .int .i64 0], .agg #[.int .i64 0, .slice none 0 0, .slice none 0 0], .int .i64 2]) ∧ Below w.heap.size w w' := by
  obtain ⟨w0, hw0⟩ : ∃ w0, (((w.alloc (.cells #[.int .u32 s.d0, .int .u32 s.d1, .int .u32 s.d2, .int .u32 s.d3, .int .i64 h, .int .i64 n] 30)).alloc (.cells #[.int .u32 msg.d0, .int .u32 msg.d1, .int .u32 msg.d2, .int .u32 msg.d3] 24)).alloc (.cells #[.int .u32 0, .int .u32 0, .int .u32 0, .int .u32 0, .int .i64 0, .int .i64 0] 30)).alloc (.cells #[.int .i64 0, .slice none 0 0, .slice none 0 0] 38) = w0 := ⟨_, rfl⟩
  obtain ⟨hX0, hM0, hR0, hG0, hB0⟩ := start_use s msg h n w w0 hw0
  obtain ⟨x0, x1, x2, x3, x4, x5⟩ := hX0.c6
  obtain ⟨b0, b1, b2, b3, b4, b5⟩ := hR0.c6
  have f0 := hR0.fz 0
  have f1 := hR0.fz 1
  have f2 := hR0.fz 2
  have f3 := hR0.fz 3
  have f4 := hR0.fz 4
  have f5 := hR0.fz 5
  obtain ⟨g0, g1, g2⟩ := hG0.c3
  have j0 := hG0.fz 0
  have j1 := hG0.fz 1
  have j2 := hG0.fz 2
  have hR6 := hR0.put6 (.int .u32 0) (.int .u32 0) (.int .u32 0) (.int .u32 0) (.int .i64 0) (.int .i64 0)
  have hG6 := ((((((hG0.far (a := ⟨w.heap.size + 1 + 1, 0, none⟩) (show w.heap.size + 1 + 1 + 1 ≠ w.heap.size + 1 + 1 by omega) (.int .u32 0)).far (a := ⟨w.heap.size + 1 + 1, 1, none⟩) (show w.heap.size + 1 + 1 + 1 ≠ w.heap.size + 1 + 1 by omega) (.int .u32 0)).far (a := ⟨w.heap.size + 1 + 1, 2, none⟩) (show w.heap.size + 1 + 1 + 1 ≠ w.heap.size + 1 + 1 by omega) (.int .u32 0)).far (a := ⟨w.heap.size + 1 + 1, 3, none⟩) (show w.heap.size + 1 + 1 + 1 ≠ w.heap.size + 1 + 1 by omega) (.int .u32 0)).far (a := ⟨w.heap.size + 1 + 1, 4, none⟩) (show w.heap.size + 1 + 1 + 1 ≠ w.heap.size + 1 + 1 by omega) (.int .i64 0)).far (a := ⟨w.heap.size + 1 + 1, 5, none⟩) (show w.heap.size + 1 + 1 + 1 ≠ w.heap.size + 1 + 1 by omega) (.int .i64 0))
  have hGf := hG6.put3 (.int .i64 0) (.slice none 0 0) (.slice none 0 0)
  have hRf := ((hR6.far (a := ⟨w.heap.size + 1 + 1 + 1, 0, none⟩) (show w.heap.size + 1 + 1 ≠ w.heap.size + 1 + 1 + 1 by omega) (.int .i64 0)).far (a := ⟨w.heap.size + 1 + 1 + 1, 1, none⟩) (show w.heap.size + 1 + 1 ≠ w.heap.size + 1 + 1 + 1 by omega) (.slice none 0 0)).far (a := ⟨w.heap.size + 1 + 1 + 1, 2, none⟩) (show w.heap.size + 1 + 1 ≠ w.heap.size + 1 + 1 + 1 by omega) (.slice none 0 0)
  have hBf := below_put3 (below_put6 hB0 (show w.heap.size ≤ w.heap.size + 1 + 1 by omega) (.int .u32 0) (.int .u32 0) (.int .u32 0) (.int .u32 0) (.int .i64 0) (.int .i64 0)) (show w.heap.size ≤ w.heap.size + 1 + 1 + 1 by omega) (.int .i64 0) (.slice none 0 0) (.slice none 0 0)
  obtain ⟨q1, hq1⟩ : ∃ g, decide (h < 0) = g := ⟨_, rfl⟩
  obtain ⟨q2, hq2⟩ : ∃ g, decide (4 < h) = g := ⟨_, rfl⟩
  have hall : q1 = true ∨ q2 = true := by
    subst hq1; subst hq2
    simp
    omega
  clear hh hR6 hG6
  go_enter Tryd.func20, Tryd.ntmps20
  cases q1 <;> cases q2 <;> simp at hall
  all_goals
    go_wp2_with fail
    clear hw0
    generalize (((((((((w0.setCell ⟨w.heap.size + 1 + 1, 0, none⟩ (.int .u32 0)).setCell ⟨w.heap.size + 1 + 1, 1, none⟩ (.int .u32 0)).setCell ⟨w.heap.size + 1 + 1, 2, none⟩ (.int .u32 0)).setCell ⟨w.heap.size + 1 + 1, 3, none⟩ (.int .u32 0)).setCell ⟨w.heap.size + 1 + 1, 4, none⟩ (.int .i64 0)).setCell ⟨w.heap.size + 1 + 1, 5, none⟩ (.int .i64 0)).setCell ⟨w.heap.size + 1 + 1 + 1, 0, none⟩ (.int .i64 0)).setCell ⟨w.heap.size + 1 + 1 + 1, 1, none⟩ (.slice none 0 0)).setCell ⟨w.heap.size + 1 + 1 + 1, 2, none⟩ (.slice none 0 0)) = wf at *
    obtain ⟨r0, r1, r2, r3, r4, r5⟩ := hRf.c6
    obtain ⟨t0, t1, t2⟩ := hGf.c3
    refine bodyPost_ret (v := .tuple #[.agg #[.int .u32 0, .int .u32 0, .int .u32 0, .int .u32 0, .int .i64 0, .int .i64 0], .agg #[.int .i64 0, .slice none 0 0, .slice none 0 0], .int .i64 2]) (by simp [results, Tryd.results20, go_sem, r0, r1, r2, r3, r4, r5, t0, t1, t2]) rfl ⟨rfl, hBf⟩
end Go.Proofs.YtdphhpmkcalahaaDoor
