/-
  The last one that is left is taken: the code's take and usedUp.
-/
import Derived.Test.YtnimbclnhgbdcaaDoorMkO
namespace Go.Proofs.YtnimbclnhgbdcaaDoor
open Go.RowKit Go.Lib

def takeF (q : List D4) (s : Bool) : D4 × List D4 × Bool := ((takeR zeroD q.reverse s).1, (takeR zeroD q.reverse s).2.1.reverse, (takeR zeroD q.reverse s).2.2)
theorem takeF_nil (s : Bool) : takeF [] s = (zeroD, [], true) := rfl
theorem takeF_snoc (r : List D4) (y : D4) (s : Bool) : takeF (r ++ [y]) s = (y, r, s) := by simp [takeF, takeR]
set_option maxHeartbeats 1000000 in
set_option maxRecDepth 100000 in
theorem take_none (g cap : Nat) (a : Option Addr) (s : Bool) (w : World) (h : restB g (.slice a 0 cap) s w) :
    Calls Tryd.prog 50 #[.pointer (some ⟨g, 0, none⟩)] w fun e w' => e = .returned (.agg #[.int .u32 0, .int .u32 0, .int .u32 0, .int .u32 0]) ∧ Rest w.heap.size g w w' (.slice a 0 cap) true := by
  obtain ⟨w0, hw0⟩ : ∃ w0, w.alloc (.cells #[.int .u32 0, .int .u32 0, .int .u32 0, .int .u32 0] 26) = w0 := ⟨_, rfl⟩
  obtain ⟨hR, hB⟩ := start4 w w0 hw0
  have h0 := h.on hB h.lt
  have hg := h.lt
  have hRest := Rest.ofBelow hB h0
  have hs1 := h0.short (t := true)
  have hRest1 := hRest.short true
  have hRx : Arr .u32 26 w.heap.size [0, 0, 0, 0] (w0.setCell ⟨g, 1, none⟩ (.bool true)) := hR.far (a := ⟨g, 1, none⟩) (show w.heap.size ≠ g by omega) _
  obtain ⟨c0, c1, z0, z1⟩ := h0.cells
  obtain ⟨k0, k1, k2, k3⟩ := Arr.c4 (d := zeroD) hR
  obtain ⟨f0, f1, f2, f3⟩ := hR.f4
  have hne : w.heap.size ≠ g := by omega
  have hne2 : g ≠ w.heap.size := by omega
  have hw1 : IntKind.i64.wrap ((0 : Int) - 1) = -1 := by decide
  go_enter Tryd.func50, Tryd.ntmps50
  go_wp2_with fail
  generalize w0.setCell ⟨g, 1, none⟩ (.bool true) = w1 at *
  have hRf : Arr .u32 26 w.heap.size zeroD.toL ((((w1.setCell ⟨w.heap.size, 0, none⟩ (.int .u32 zeroD.d0)).setCell ⟨w.heap.size, 1, none⟩ (.int .u32 zeroD.d1)).setCell ⟨w.heap.size, 2, none⟩ (.int .u32 zeroD.d2)).setCell ⟨w.heap.size, 3, none⟩ (.int .u32 zeroD.d3)) := put4 (d := zeroD) hRx rfl
  have hBf : Rest w.heap.size g w ((((w1.setCell ⟨w.heap.size, 0, none⟩ (.int .u32 zeroD.d0)).setCell ⟨w.heap.size, 1, none⟩ (.int .u32 zeroD.d1)).setCell ⟨w.heap.size, 2, none⟩ (.int .u32 zeroD.d2)).setCell ⟨w.heap.size, 3, none⟩ (.int .u32 zeroD.d3)) (.slice a 0 cap) true := hRest1.put4 (Nat.le_refl _) hne zeroD
  change bodyPost _ _ _ _ _ ((((w1.setCell ⟨w.heap.size, 0, none⟩ (.int .u32 zeroD.d0)).setCell ⟨w.heap.size, 1, none⟩ (.int .u32 zeroD.d1)).setCell ⟨w.heap.size, 2, none⟩ (.int .u32 zeroD.d2)).setCell ⟨w.heap.size, 3, none⟩ (.int .u32 zeroD.d3))
  generalize ((((w1.setCell ⟨w.heap.size, 0, none⟩ (.int .u32 zeroD.d0)).setCell ⟨w.heap.size, 1, none⟩ (.int .u32 zeroD.d1)).setCell ⟨w.heap.size, 2, none⟩ (.int .u32 zeroD.d2)).setCell ⟨w.heap.size, 3, none⟩ (.int .u32 zeroD.d3)) = wf at *
  obtain ⟨r0, r1, r2, r3⟩ := hRf.c4
  refine bodyPost_ret (v := zeroD.val) (by simp [results, Tryd.results50, go_sem, D4.val, r0, r1, r2, r3]) rfl ⟨rfl, hBf⟩
set_option maxHeartbeats 1000000 in
set_option maxRecDepth 100000 in
theorem take_one (g b o m n cap : Nat) (y : D4) (s : Bool) (w : World) (hn : m + 1 = n) (hc : n ≤ cap) (hm : cap ≤ maxLen) (_hb : b ≠ g) (h : restB g (.slice (some ⟨b, o, none⟩) n cap) s w) (hy : dgAt w b (o + m * 4) y) (hbw : b < w.heap.size) :
    Calls Tryd.prog 50 #[.pointer (some ⟨g, 0, none⟩)] w fun e w' => e = .returned (.agg #[.int .u32 y.d0, .int .u32 y.d1, .int .u32 y.d2, .int .u32 y.d3]) ∧ Rest w.heap.size g w w' (.slice (some ⟨b, o, none⟩) m cap) s := by
  unfold maxLen at hm
  obtain ⟨w0, hw0⟩ : ∃ w0, w.alloc (.cells #[.int .u32 0, .int .u32 0, .int .u32 0, .int .u32 0] 26) = w0 := ⟨_, rfl⟩
  obtain ⟨hR, hB⟩ := start4 w w0 hw0
  have h0 := h.on hB h.lt
  have hg := h.lt
  have hsz : w0.heap.size = w.heap.size + 1 := by rw [← hw0]; simp
  obtain ⟨w1, hw1⟩ : ∃ w1, w0.alloc (.cells #[.int .u32 y.d0, .int .u32 y.d1, .int .u32 y.d2, .int .u32 y.d3] 26) = w1 := ⟨_, rfl⟩
  have h1 : restB g (.slice (some ⟨b, o, none⟩) n cap) s w1 := by rw [← hw1]; exact h0.al _
  have hX : Arr .u32 26 (w.heap.size + 1) y.toL w1 := by rw [← hw1, ← hsz]; exact heap_alloc_new w0 _
  have hB1 : Below w.heap.size w w1 := by rw [← hw1]; exact hB.alloc (by omega) _
  have hR1 : Arr .u32 26 w.heap.size [0, 0, 0, 0] w1 := by rw [← hw1]; exact hR.al _
  obtain ⟨w2, hw2⟩ : ∃ w2, w1.setCell ⟨g, 0, none⟩ (.slice (some ⟨b, o, none⟩) m cap) = w2 := ⟨_, rfl⟩
  have hRest : Rest w.heap.size g w w2 (.slice (some ⟨b, o, none⟩) m cap) s := by rw [← hw2]; exact (Rest.ofBelow hB1 h1).left _
  have hX2 : Arr .u32 26 (w.heap.size + 1) y.toL w2 := by rw [← hw2]; exact hX.far (a := ⟨g, 0, none⟩) (show w.heap.size + 1 ≠ g by omega) _
  have hR2 : Arr .u32 26 w.heap.size [0, 0, 0, 0] w2 := by rw [← hw2]; exact hR1.far (a := ⟨g, 0, none⟩) (show w.heap.size ≠ g by omega) _
  have hy0 : dgAt w0 b (o + m * 4) y := hy.on hB hbw
  obtain ⟨y0, y1, y2, y3⟩ := hy0
  obtain ⟨c0, _, z0, _⟩ := h0.cells
  obtain ⟨c0', _, z0', _⟩ := h1.cells
  obtain ⟨x0, x1, x2, x3⟩ := Arr.c4 hX2
  obtain ⟨k0, k1, k2, k3⟩ := Arr.c4 (d := zeroD) hR2
  obtain ⟨f0, f1, f2, f3⟩ := hR2.f4
  have hne : w.heap.size ≠ g := by omega
  have hNw : IntKind.i64.wrap ((n : Int) - 1) = (m : Int) := by rw [IntWalk.i64_in _ (by omega)]; omega
  have hm0 : (0 : Int) ≤ (m : Int) := by omega
  have hlt0 : decide ((m : Int) < 0) = false := by simp
  have hmN : (m : Int) < (n : Int) := by omega
  have hmN2 : (m : Int) ≤ (n : Int) := by omega
  have hmc : (m : Int) ≤ (cap : Int) := by omega
  have hRf : Arr .u32 26 w.heap.size y.toL ((((w2.setCell ⟨w.heap.size, 0, none⟩ (.int .u32 y.d0)).setCell ⟨w.heap.size, 1, none⟩ (.int .u32 y.d1)).setCell ⟨w.heap.size, 2, none⟩ (.int .u32 y.d2)).setCell ⟨w.heap.size, 3, none⟩ (.int .u32 y.d3)) := put4 (d := y) hR2 rfl
  have hBf : Rest w.heap.size g w ((((w2.setCell ⟨w.heap.size, 0, none⟩ (.int .u32 y.d0)).setCell ⟨w.heap.size, 1, none⟩ (.int .u32 y.d1)).setCell ⟨w.heap.size, 2, none⟩ (.int .u32 y.d2)).setCell ⟨w.heap.size, 3, none⟩ (.int .u32 y.d3)) (.slice (some ⟨b, o, none⟩) m cap) s := hRest.put4 (Nat.le_refl _) hne y
  have HN := Lib.hid hn
  clear hn hRest hX hX2 hR hR1 hR2 hB hB1 h h0 h1 hy
  go_enter Tryd.func50, Tryd.ntmps50
  go_wp2_with fail
  generalize ((((w2.setCell ⟨w.heap.size, 0, none⟩ (.int .u32 y.d0)).setCell ⟨w.heap.size, 1, none⟩ (.int .u32 y.d1)).setCell ⟨w.heap.size, 2, none⟩ (.int .u32 y.d2)).setCell ⟨w.heap.size, 3, none⟩ (.int .u32 y.d3)) = wf at *
  obtain ⟨r0, r1, r2, r3⟩ := hRf.c4
  refine bodyPost_ret (v := y.val) (by simp [results, Tryd.results50, go_sem, D4.val, r0, r1, r2, r3]) rfl ⟨rfl, hBf⟩
/-- One is taken, or none was left. -/
theorem rtk_any (q q' : List D4) (y : D4) (g cap : Nat) (a : Option Addr) (s s' : Bool) (n : Nat) (w : World) (hq : takeF q s = (y, q', s')) (hn : n = q.length) (h : restB g (.slice a n cap) s w) (hr : RdG g w a q) (hc : n ≤ cap) (hm : cap ≤ maxLen) :
    Calls Tryd.prog 50 #[.pointer (some ⟨g, 0, none⟩)] w fun e w' => e = .returned (.agg #[.int .u32 y.d0, .int .u32 y.d1, .int .u32 y.d2, .int .u32 y.d3]) ∧ Rest w.heap.size g w w' (.slice a q'.length cap) s' ∧ RdG g w' a q' ∧ q'.length ≤ cap := by
  subst hn
  rcases List.eq_nil_or_concat q with rfl | ⟨r, x, rfl⟩
  · rw [takeF_nil] at hq
    simp only [Prod.mk.injEq] at hq
    obtain ⟨rfl, rfl, rfl⟩ := hq
    refine (take_none g cap a s w h).mono ?_
    rintro e w1 ⟨rfl, hR⟩
    exact ⟨rfl, hR, fun q => absurd rfl q, Nat.zero_le _⟩
  · rw [List.concat_eq_append] at *
    rw [takeF_snoc] at hq
    simp only [Prod.mk.injEq] at hq
    obtain ⟨rfl, rfl, rfl⟩ := hq
    obtain ⟨b, o, rfl, hb, hrd⟩ := hr (by simp)
    have hl : r.length + 1 = (r ++ [x]).length := by simp
    refine (take_one g b o r.length _ cap x s w hl hc hm hb h hrd.last hrd.1).mono ?_
    rintro e w1 ⟨rfl, hR⟩
    exact ⟨rfl, hR, hr.init.onR hR, by omega⟩
/-- Is nothing left, and was no more taken than there was? -/
theorem usedUp_any (g n cap : Nat) (a : Option Addr) (s : Bool) (w : World) (h : restB g (.slice a n cap) s w) :
    Calls Tryd.prog 34 #[.pointer (some ⟨g, 0, none⟩)] w fun e w' => e = .returned (.bool (((n : Int) == 0) && !s)) ∧ w = w' := by
  obtain ⟨c0, c1, z0, z1⟩ := h.cells
  obtain ⟨q, hq⟩ : ∃ q, ((n : Int) == 0) = q := ⟨_, rfl⟩
  rw [hq]
  cases q <;> cases s <;> (go_enter Tryd.func34, Tryd.ntmps34; go_wp2; go_ret; exact ⟨rfl, rfl⟩)
end Go.Proofs.YtnimbclnhgbdcaaDoor
