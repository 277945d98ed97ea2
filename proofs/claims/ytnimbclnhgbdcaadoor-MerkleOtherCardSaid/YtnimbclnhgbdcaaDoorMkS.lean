/-
  The root that comes of a proof that is used up from its end: the code's root (written by gen_root.py).
-/
import Derived.Test.YtnimbclnhgbdcaaDoorMkR
import Derived.Test.YtnimbclnhgbdcaaDoorMkT
namespace Go.Proofs.YtnimbclnhgbdcaaDoor
open Go.RowKit Go.Lib

def rootF (n i : Nat) (x : D4) (q : List D4) (s : Bool) : D4 × List D4 × Bool := ((rootR pairS zeroD n i x q.reverse s).1, (rootR pairS zeroD n i x q.reverse s).2.1.reverse, (rootR pairS zeroD n i x q.reverse s).2.2)
theorem rootF_one {n : Nat} (h : n ≤ 1) (i : Nat) (x : D4) (q : List D4) (s : Bool) : rootF n i x q s = (x, q, s) := by simp [rootF, rootR_one pairS zeroD h]
theorem rootF_left {n i : Nat} (h : ¬ n ≤ 1) (hi : i < half n) (x : D4) (q : List D4) (s : Bool) : rootF n i x q s = (pairS (rootF (half n) i x (takeF q s).2.1 (takeF q s).2.2).1 (takeF q s).1, (rootF (half n) i x (takeF q s).2.1 (takeF q s).2.2).2) := by
  simp only [rootF, takeF, rootR_left pairS zeroD h hi, List.reverse_reverse]
theorem rootF_right {n i : Nat} (h : ¬ n ≤ 1) (hi : ¬ i < half n) (x : D4) (q : List D4) (s : Bool) : rootF n i x q s = (pairS (takeF q s).1 (rootF (n - half n) (i - half n) x (takeF q s).2.1 (takeF q s).2.2).1, (rootF (n - half n) (i - half n) x (takeF q s).2.1 (takeF q s).2.2).2) := by
  simp only [rootF, takeF, rootR_right pairS zeroD h hi, List.reverse_reverse]
theorem zeroD_ok : zeroD.ok := by simp [D4.ok, zeroD, isW]
theorem takeF_ok {q : List D4} (h : allD4 q) (s : Bool) : (takeF q s).1.ok ∧ allD4 (takeF q s).2.1 := by
  rcases List.eq_nil_or_concat q with rfl | ⟨r, x, rfl⟩
  · rw [takeF_nil]; exact ⟨zeroD_ok, h⟩
  · rw [List.concat_eq_append] at *
    rw [takeF_snoc]; exact ⟨h.lastOk, h.left⟩
theorem rootF_ok : ∀ (n : Nat) (i : Nat) (x : D4) (q : List D4) (s : Bool), x.ok → allD4 q → (rootF n i x q s).1.ok := by
  intro n
  induction n using Nat.strongRecOn with
  | _ n ih =>
    intro i x q s hx hq
    by_cases h : n ≤ 1
    · rw [rootF_one h]; exact hx
    · have h1 := half_lt (show 2 ≤ n by omega)
      have h2 := half_pos n
      by_cases k : i < half n
      · rw [rootF_left h k]; exact pairS_ok (ih _ h1 _ _ _ _ hx (takeF_ok hq s).2) (takeF_ok hq s).1
      · rw [rootF_right h k]; exact pairS_ok (takeF_ok hq s).1 (ih _ (by omega) _ _ _ _ hx (takeF_ok hq s).2)
theorem cell_inS {w : World} {b : Nat} {v : Value} (h : w.cell? ⟨b, 0, none⟩ = some v) : b < w.heap.size := by
  rcases Nat.lt_or_ge b w.heap.size with q | q
  · exact q
  · simp [World.cell?, Array.getElem?_eq_none q] at h
theorem keep2 {x y : D4} {X Y : Nat} {W w' : World} (h1 : w'.heap[X]? = W.heap[X]?) (h2 : w'.heap[Y]? = W.heap[Y]?) (f : W.cell? ⟨X, 0, none⟩ = some (.int .u32 x.d0) ∧ W.cell? ⟨X, 1, none⟩ = some (.int .u32 x.d1) ∧ W.cell? ⟨X, 2, none⟩ = some (.int .u32 x.d2) ∧ W.cell? ⟨X, 3, none⟩ = some (.int .u32 x.d3) ∧ W.cell? ⟨Y, 0, none⟩ = some (.int .u32 y.d0) ∧ W.cell? ⟨Y, 1, none⟩ = some (.int .u32 y.d1) ∧ W.cell? ⟨Y, 2, none⟩ = some (.int .u32 y.d2) ∧ W.cell? ⟨Y, 3, none⟩ = some (.int .u32 y.d3)) : w'.cell? ⟨X, 0, none⟩ = some (.int .u32 x.d0) ∧ w'.cell? ⟨X, 1, none⟩ = some (.int .u32 x.d1) ∧ w'.cell? ⟨X, 2, none⟩ = some (.int .u32 x.d2) ∧ w'.cell? ⟨X, 3, none⟩ = some (.int .u32 x.d3) ∧ w'.cell? ⟨Y, 0, none⟩ = some (.int .u32 y.d0) ∧ w'.cell? ⟨Y, 1, none⟩ = some (.int .u32 y.d1) ∧ w'.cell? ⟨Y, 2, none⟩ = some (.int .u32 y.d2) ∧ w'.cell? ⟨Y, 3, none⟩ = some (.int .u32 y.d3) := by
  have e1 : ∀ j, w'.cell? ⟨X, j, none⟩ = W.cell? ⟨X, j, none⟩ := fun j => World.cell?_of_block (w := W) h1
  have e2 : ∀ j, w'.cell? ⟨Y, j, none⟩ = W.cell? ⟨Y, j, none⟩ := fun j => World.cell?_of_block (w := W) h2
  simp only [e1, e2]
  exact f
theorem keep2b {x y : D4} {X Y : Nat} {W w' : World} (h : Below W.heap.size W w') (f : W.cell? ⟨X, 0, none⟩ = some (.int .u32 x.d0) ∧ W.cell? ⟨X, 1, none⟩ = some (.int .u32 x.d1) ∧ W.cell? ⟨X, 2, none⟩ = some (.int .u32 x.d2) ∧ W.cell? ⟨X, 3, none⟩ = some (.int .u32 x.d3) ∧ W.cell? ⟨Y, 0, none⟩ = some (.int .u32 y.d0) ∧ W.cell? ⟨Y, 1, none⟩ = some (.int .u32 y.d1) ∧ W.cell? ⟨Y, 2, none⟩ = some (.int .u32 y.d2) ∧ W.cell? ⟨Y, 3, none⟩ = some (.int .u32 y.d3)) : w'.cell? ⟨X, 0, none⟩ = some (.int .u32 x.d0) ∧ w'.cell? ⟨X, 1, none⟩ = some (.int .u32 x.d1) ∧ w'.cell? ⟨X, 2, none⟩ = some (.int .u32 x.d2) ∧ w'.cell? ⟨X, 3, none⟩ = some (.int .u32 x.d3) ∧ w'.cell? ⟨Y, 0, none⟩ = some (.int .u32 y.d0) ∧ w'.cell? ⟨Y, 1, none⟩ = some (.int .u32 y.d1) ∧ w'.cell? ⟨Y, 2, none⟩ = some (.int .u32 y.d2) ∧ w'.cell? ⟨Y, 3, none⟩ = some (.int .u32 y.d3) := keep2 (h.block X (cell_inS f.1)) (h.block Y (cell_inS f.2.2.2.2.1)) f
theorem keep2r {x y : D4} {X Y g : Nat} {W w' : World} {v : Value} {s : Bool} (h : Rest W.heap.size g W w' v s) (hX : X ≠ g) (hY : Y ≠ g) (f : W.cell? ⟨X, 0, none⟩ = some (.int .u32 x.d0) ∧ W.cell? ⟨X, 1, none⟩ = some (.int .u32 x.d1) ∧ W.cell? ⟨X, 2, none⟩ = some (.int .u32 x.d2) ∧ W.cell? ⟨X, 3, none⟩ = some (.int .u32 x.d3) ∧ W.cell? ⟨Y, 0, none⟩ = some (.int .u32 y.d0) ∧ W.cell? ⟨Y, 1, none⟩ = some (.int .u32 y.d1) ∧ W.cell? ⟨Y, 2, none⟩ = some (.int .u32 y.d2) ∧ W.cell? ⟨Y, 3, none⟩ = some (.int .u32 y.d3)) : w'.cell? ⟨X, 0, none⟩ = some (.int .u32 x.d0) ∧ w'.cell? ⟨X, 1, none⟩ = some (.int .u32 x.d1) ∧ w'.cell? ⟨X, 2, none⟩ = some (.int .u32 x.d2) ∧ w'.cell? ⟨X, 3, none⟩ = some (.int .u32 x.d3) ∧ w'.cell? ⟨Y, 0, none⟩ = some (.int .u32 y.d0) ∧ w'.cell? ⟨Y, 1, none⟩ = some (.int .u32 y.d1) ∧ w'.cell? ⟨Y, 2, none⟩ = some (.int .u32 y.d2) ∧ w'.cell? ⟨Y, 3, none⟩ = some (.int .u32 y.d3) := keep2 (h.block X (cell_inS f.1) hX) (h.block Y (cell_inS f.2.2.2.2.1) hY) f
theorem keep2s {x y v : D4} {X Y C : Nat} {W : World} (hX : X ≠ C) (hY : Y ≠ C) (f : W.cell? ⟨X, 0, none⟩ = some (.int .u32 x.d0) ∧ W.cell? ⟨X, 1, none⟩ = some (.int .u32 x.d1) ∧ W.cell? ⟨X, 2, none⟩ = some (.int .u32 x.d2) ∧ W.cell? ⟨X, 3, none⟩ = some (.int .u32 x.d3) ∧ W.cell? ⟨Y, 0, none⟩ = some (.int .u32 y.d0) ∧ W.cell? ⟨Y, 1, none⟩ = some (.int .u32 y.d1) ∧ W.cell? ⟨Y, 2, none⟩ = some (.int .u32 y.d2) ∧ W.cell? ⟨Y, 3, none⟩ = some (.int .u32 y.d3)) : ((((W.setCell ⟨C, 0, none⟩ (.int .u32 v.d0)).setCell ⟨C, 1, none⟩ (.int .u32 v.d1)).setCell ⟨C, 2, none⟩ (.int .u32 v.d2)).setCell ⟨C, 3, none⟩ (.int .u32 v.d3)).cell? ⟨X, 0, none⟩ = some (.int .u32 x.d0) ∧ ((((W.setCell ⟨C, 0, none⟩ (.int .u32 v.d0)).setCell ⟨C, 1, none⟩ (.int .u32 v.d1)).setCell ⟨C, 2, none⟩ (.int .u32 v.d2)).setCell ⟨C, 3, none⟩ (.int .u32 v.d3)).cell? ⟨X, 1, none⟩ = some (.int .u32 x.d1) ∧ ((((W.setCell ⟨C, 0, none⟩ (.int .u32 v.d0)).setCell ⟨C, 1, none⟩ (.int .u32 v.d1)).setCell ⟨C, 2, none⟩ (.int .u32 v.d2)).setCell ⟨C, 3, none⟩ (.int .u32 v.d3)).cell? ⟨X, 2, none⟩ = some (.int .u32 x.d2) ∧ ((((W.setCell ⟨C, 0, none⟩ (.int .u32 v.d0)).setCell ⟨C, 1, none⟩ (.int .u32 v.d1)).setCell ⟨C, 2, none⟩ (.int .u32 v.d2)).setCell ⟨C, 3, none⟩ (.int .u32 v.d3)).cell? ⟨X, 3, none⟩ = some (.int .u32 x.d3) ∧ ((((W.setCell ⟨C, 0, none⟩ (.int .u32 v.d0)).setCell ⟨C, 1, none⟩ (.int .u32 v.d1)).setCell ⟨C, 2, none⟩ (.int .u32 v.d2)).setCell ⟨C, 3, none⟩ (.int .u32 v.d3)).cell? ⟨Y, 0, none⟩ = some (.int .u32 y.d0) ∧ ((((W.setCell ⟨C, 0, none⟩ (.int .u32 v.d0)).setCell ⟨C, 1, none⟩ (.int .u32 v.d1)).setCell ⟨C, 2, none⟩ (.int .u32 v.d2)).setCell ⟨C, 3, none⟩ (.int .u32 v.d3)).cell? ⟨Y, 1, none⟩ = some (.int .u32 y.d1) ∧ ((((W.setCell ⟨C, 0, none⟩ (.int .u32 v.d0)).setCell ⟨C, 1, none⟩ (.int .u32 v.d1)).setCell ⟨C, 2, none⟩ (.int .u32 v.d2)).setCell ⟨C, 3, none⟩ (.int .u32 v.d3)).cell? ⟨Y, 2, none⟩ = some (.int .u32 y.d2) ∧ ((((W.setCell ⟨C, 0, none⟩ (.int .u32 v.d0)).setCell ⟨C, 1, none⟩ (.int .u32 v.d1)).setCell ⟨C, 2, none⟩ (.int .u32 v.d2)).setCell ⟨C, 3, none⟩ (.int .u32 v.d3)).cell? ⟨Y, 3, none⟩ = some (.int .u32 y.d3) :=
  keep2 (by rw [Below.heap_setCell _ _ _ _ hX, Below.heap_setCell _ _ _ _ hX, Below.heap_setCell _ _ _ _ hX, Below.heap_setCell _ _ _ _ hX]) (by rw [Below.heap_setCell _ _ _ _ hY, Below.heap_setCell _ _ _ _ hY, Below.heap_setCell _ _ _ _ hY, Below.heap_setCell _ _ _ _ hY]) f
/-- What the code's root answers. -/
def RRC (n : Nat) : Prop := ∀ (i : Nat) (x : D4) (q : List D4) (s : Bool) (g cap : Nat) (a : Option Addr) (w : World), i ≤ 1000000 → x.ok → allD4 q → restB g (.slice a q.length cap) s w → RdG g w a q → q.length ≤ cap → cap ≤ maxLen → TurnsOk w →
  Calls Tryd.prog 33 #[.pointer (some ⟨g, 0, none⟩), .int .i64 (n : Int), .int .i64 (i : Int), x.val] w fun e w' => e = .returned (rootF n i x q s).1.val ∧ Rest w.heap.size g w w' (.slice a (rootF n i x q s).2.1.length cap) (rootF n i x q s).2.2
theorem rr_val (n : Nat) (H : RRC n) (i : Nat) (x z : D4) (q q' : List D4) (s s' : Bool) (g cap : Nat) (a : Option Addr) (u v : Int) (w : World) (hu : (n : Int) = u) (hv : (i : Int) = v) (hi : i ≤ 1000000) (hx : x.ok) (hq : allD4 q) (hR : restB g (.slice a q.length cap) s w) (hr : RdG g w a q) (hc : q.length ≤ cap) (hm : cap ≤ maxLen) (hT : TurnsOk w) (hz : rootF n i x q s = (z, q', s')) :
    Calls Tryd.prog 33 #[.pointer (some ⟨g, 0, none⟩), .int .i64 u, .int .i64 v, .agg #[.int .u32 x.d0, .int .u32 x.d1, .int .u32 x.d2, .int .u32 x.d3]] w fun e w' => e = .returned (.agg #[.int .u32 z.d0, .int .u32 z.d1, .int .u32 z.d2, .int .u32 z.d3]) ∧ Rest w.heap.size g w w' (.slice a q'.length cap) s' := by
  subst hu; subst hv
  have := H i x q s g cap a w hi hx hq hR hr hc hm hT
  rw [hz] at this
  exact this
set_option maxHeartbeats 1000000 in
set_option maxRecDepth 100000 in
theorem rr_one : RRC 1 := by
  intro i x q s g cap a w hi hx hq hR hr hc hm hT
  have HE : Hid (rootF 1 i x q s = (x, q, s)) := rootF_one (Nat.le_refl _) i x q s
  obtain ⟨N, hN⟩ : ∃ N, q.length = N := ⟨_, rfl⟩
  have HN := Lib.hid hN
  rw [hN] at hR hc
  clear hN
  obtain ⟨w0, hw0⟩ : ∃ w0, (w.alloc (.cells #[.int .u32 x.d0, .int .u32 x.d1, .int .u32 x.d2, .int .u32 x.d3] 26)).alloc (.cells #[.int .u32 0, .int .u32 0, .int .u32 0, .int .u32 0] 26) = w0 := ⟨_, rfl⟩
  obtain ⟨hL, hS, hB, hsz⟩ := start44 x w w0 hw0
  have hg := hR.lt
  have hRest := Rest.ofBelow hB (hR.on hB hg)
  obtain ⟨l0, l1, l2, l3⟩ := Arr.c4 hL
  obtain ⟨k0, k1, k2, k3⟩ := Arr.c4 (d := zeroD) hS
  obtain ⟨f0, f1, f2, f3⟩ := hS.f4
  have hRf := put4 (d := x) hS rfl
  have hBf : Rest w.heap.size g w ((((w0.setCell ⟨w.heap.size + 1, 0, none⟩ (.int .u32 x.d0)).setCell ⟨w.heap.size + 1, 1, none⟩ (.int .u32 x.d1)).setCell ⟨w.heap.size + 1, 2, none⟩ (.int .u32 x.d2)).setCell ⟨w.heap.size + 1, 3, none⟩ (.int .u32 x.d3)) (.slice a N cap) s := hRest.put4 (by omega) (by omega) x
  clear hS hB hL hR hRest
  go_enter Tryd.func33, Tryd.ntmps33
  simp only [D4.val]
  go_wp2_with fail
  clear hw0
  generalize ((((w0.setCell ⟨w.heap.size + 1, 0, none⟩ (.int .u32 x.d0)).setCell ⟨w.heap.size + 1, 1, none⟩ (.int .u32 x.d1)).setCell ⟨w.heap.size + 1, 2, none⟩ (.int .u32 x.d2)).setCell ⟨w.heap.size + 1, 3, none⟩ (.int .u32 x.d3)) = wf at *
  obtain ⟨r0, r1, r2, r3⟩ := hRf.c4
  refine bodyPost_ret (v := x.val) (by simp [results, Tryd.results33, go_sem, D4.val, r0, r1, r2, r3]) rfl ⟨by rw [HE.out]; rfl, by rw [HE.out]; show Rest _ _ _ _ (.slice a q.length cap) s; rw [HN.out]; exact hBf⟩
set_option maxHeartbeats 4000000 in
set_option maxRecDepth 100000 in
theorem rr_left (n : Nat) (h2 : 2 ≤ n) (hle : n ≤ 1000000) (H : RRC (half n)) (i : Nat) (hi : i < half n) (x : D4) (q : List D4) (s : Bool) (g cap : Nat) (a : Option Addr) (w : World) (hil : i ≤ 1000000) (hx : x.ok) (hq : allD4 q) (hR : restB g (.slice a q.length cap) s w) (hr : RdG g w a q) (hc : q.length ≤ cap) (hm : cap ≤ maxLen) (hT : TurnsOk w) :
    Calls Tryd.prog 33 #[.pointer (some ⟨g, 0, none⟩), .int .i64 (n : Int), .int .i64 (i : Int), x.val] w fun e w' => e = .returned (rootF n i x q s).1.val ∧ Rest w.heap.size g w w' (.slice a (rootF n i x q s).2.1.length cap) (rootF n i x q s).2.2 := by
  have hk1 := half_lt h2
  have hk0 := half_pos n
  obtain ⟨k, hk⟩ : ∃ k, half n = k := ⟨_, rfl⟩
  obtain ⟨⟨y, q1, s1⟩, ht⟩ : ∃ t, takeF q s = t := ⟨_, rfl⟩
  obtain ⟨⟨z, q2, s2⟩, hz⟩ : ∃ t, rootF (half n) i x q1 s1 = t := ⟨_, rfl⟩
  obtain ⟨v, hv⟩ : ∃ v, pairS z y = v := ⟨_, rfl⟩
  have HE : Hid (rootF n i x q s = (v, q2, s2)) := by show _ = _; rw [rootF_left (by omega) hi, ht, ← hv]; show (pairS (rootF (half n) i x q1 s1).1 y, (rootF (half n) i x q1 s1).2) = _; rw [hz]
  have hto := takeF_ok hq s
  rw [ht] at hto
  obtain ⟨hyo, hq1⟩ := hto
  have hyo : y.ok := hyo
  have hq1 : allD4 q1 := hq1
  have hzo : z.ok := by
    have := rootF_ok (half n) i x q1 s1 hx hq1
    rw [hz] at this
    exact this
  rw [hk] at hk0 hk1 hi H hz
  obtain ⟨N, hN⟩ : ∃ N, q.length = N := ⟨_, rfl⟩
  rw [hN] at hR hc
  have HT := Lib.hid ht
  have HZ := Lib.hid hz
  have HV := Lib.hid hv
  have HK := Lib.hid hk
  have HN := Lib.hid hN
  clear ht hz hv hk hN
  have hn1 : ((n : Int) == 1) = false := by simp; omega
  have hdi : decide ((i : Int) < (k : Int)) = true := by simp; omega
  obtain ⟨w0, hw0⟩ : ∃ w0, (w.alloc (.cells #[.int .u32 x.d0, .int .u32 x.d1, .int .u32 x.d2, .int .u32 x.d3] 26)).alloc (.cells #[.int .u32 0, .int .u32 0, .int .u32 0, .int .u32 0] 26) = w0 := ⟨_, rfl⟩
  obtain ⟨hL, hS, hB, hsz⟩ := start44 x w w0 hw0
  have hg := hR.lt
  have hRest0 := Rest.ofBelow hB (hR.on hB hg)
  have hr0 := hr.on hB
  have hT0 := hT.below hB
  clear hr hT hR hB
  go_enter Tryd.func33, Tryd.ntmps33
  simp only [D4.val]
  go_wp2_with fail
  clear hw0
  refine (chalf_any n w0 h2 hle).mono ?_
  rintro e w0 ⟨rfl, rfl⟩
  rw [HK.out]
  go_wp2_with fail
  refine (rtk_any q q1 y g cap a s s1 N w0 HT.out HN.out.symm hRest0.here hr0 hc hm).mono ?_
  rintro e w1 ⟨rfl, hA1, hr1, hc1⟩
  have hT1 := hT0.onR hA1 (Nat.le_refl _) hRest0.here
  have hL1 := hL.onR hA1 hL.lt (by omega)
  have hS1 := hS.onR hA1 hS.lt (by omega)
  have hRest1 := hRest0.trans hA1 hRest0.size
  have hs1 := Nat.le_trans hRest0.size hA1.size
  have hs01 : w.heap.size + 1 + 1 ≤ w1.heap.size := by have := hA1.size; omega
  clear hr0 hT0 hL hS hRest0 hA1 hsz hs1
  obtain ⟨w2, hw2⟩ : ∃ w2, w1.alloc (.cells #[.int .u32 y.d0, .int .u32 y.d1, .int .u32 y.d2, .int .u32 y.d3] 26) = w2 := ⟨_, rfl⟩
  have hY2 : Arr .u32 26 w1.heap.size y.toL w2 := by rw [← hw2]; exact heap_alloc_new w1 _
  have hAl : Below w1.heap.size w1 w2 := by rw [← hw2]; exact (Below.refl _ _).alloc (Nat.le_refl _) _
  have hL2 := hL1.on hAl
  have hS2 := hS1.on hAl
  have hT2 := hT1.below hAl
  have hr2 := hr1.on hAl
  have hRest2 := hRest1.below hAl (by omega) (by omega)
  have hs12 := hAl.size
  have hlt2 := hY2.lt
  clear hL1 hS1 hT1 hr1 hRest1 hAl
  obtain ⟨l0, l1, l2, l3⟩ := Arr.c4 hL2
  obtain ⟨y0, y1, y2, y3⟩ := Arr.c4 hY2
  go_wp2_with fail
  have hRest3 : Rest w.heap.size g w w2.drew (.slice a q1.length cap) s1 := hRest2.below (Below.refl _ _).drew (by omega) hRest2.here.lt
  have hrB : restB g (.slice a q1.length cap) s1 w2.drew := hRest2.here
  have hrd : RdG g w2.drew a q1 := hr2
  have hTd : TurnsOk w2.drew := hT2
  have hYd : Arr .u32 26 w1.heap.size y.toL w2.drew := hY2
  have hSd : Arr .u32 26 (w.heap.size + 1) [0, 0, 0, 0] w2.drew := hS2
  have hsd : w.heap.size ≤ w2.drew.heap.size := by show _ ≤ w2.heap.size; omega
  have hL4 := Arr.c4 (show Arr .u32 26 w.heap.size x.toL w2.drew from hL2)
  have hY4 := hYd.c4
  have hS0 : w2.drew.cell? ⟨w.heap.size, 0, none⟩ = some (.int .u32 x.d0) ∧ w2.drew.cell? ⟨w.heap.size, 1, none⟩ = some (.int .u32 x.d1) ∧ w2.drew.cell? ⟨w.heap.size, 2, none⟩ = some (.int .u32 x.d2) ∧ w2.drew.cell? ⟨w.heap.size, 3, none⟩ = some (.int .u32 x.d3) ∧ w2.drew.cell? ⟨w1.heap.size, 0, none⟩ = some (.int .u32 y.d0) ∧ w2.drew.cell? ⟨w1.heap.size, 1, none⟩ = some (.int .u32 y.d1) ∧ w2.drew.cell? ⟨w1.heap.size, 2, none⟩ = some (.int .u32 y.d2) ∧ w2.drew.cell? ⟨w1.heap.size, 3, none⟩ = some (.int .u32 y.d3) := ⟨hL4.1, hL4.2.1, hL4.2.2.1, hL4.2.2.2, hY4.1, hY4.2.1, hY4.2.2.1, hY4.2.2.2⟩
  have HS0 := Lib.hid hS0
  have hxg : w.heap.size ≠ g := by omega
  have hyg : w1.heap.size ≠ g := by omega
  have hxc : w.heap.size ≠ w.heap.size + 1 := by omega
  have hyc : w1.heap.size ≠ w.heap.size + 1 := by omega
  clear hRest2 hr2 hT2 hS2 hS0 hL4 hY4 hL2 hY2 l0 l1 l2 l3 y0 y1 y2 y3 hw2
  go_region_held3 (fun w' => w'.cell? ⟨w.heap.size, 0, none⟩ = some (.int .u32 x.d0) ∧ w'.cell? ⟨w.heap.size, 1, none⟩ = some (.int .u32 x.d1) ∧ w'.cell? ⟨w.heap.size, 2, none⟩ = some (.int .u32 x.d2) ∧ w'.cell? ⟨w.heap.size, 3, none⟩ = some (.int .u32 x.d3) ∧ w'.cell? ⟨w1.heap.size, 0, none⟩ = some (.int .u32 y.d0) ∧ w'.cell? ⟨w1.heap.size, 1, none⟩ = some (.int .u32 y.d1) ∧ w'.cell? ⟨w1.heap.size, 2, none⟩ = some (.int .u32 y.d2) ∧ w'.cell? ⟨w1.heap.size, 3, none⟩ = some (.int .u32 y.d3))
    (first | ((with_reducible refine keep2s hxc hyc ?_); assumption) | ((with_reducible refine keep2b hA4 ?_); assumption) | ((with_reducible refine keep2r hA3 hxg hyg ?_); assumption) | (with_reducible exact HS0.out))
    (first
      | (go_at_call 33; (with_reducible refine (rr_val k H i x z q1 q2 s1 s2 g cap a _ _ _ (by first | rfl | omega) (by first | rfl | omega) (by omega) hx hq1 hrB hrd hc1 hm hTd HZ.out).mono ?_); rintro e w3 ⟨rfl, hA3⟩; have hY3 := hYd.onR hA3 hYd.lt (by omega); have hS3 := hSd.onR hA3 hSd.lt (by omega); have hRest4 := hRest3.trans hA3 hsd; have hT3 := hTd.onR hA3 (Nat.le_refl _) hrB; have hs3 := hA3.size; obtain ⟨t0, t1, t2, t3⟩ := Arr.c4 hY3)
      | (go_at_call 29; (with_reducible refine (cpair_val z y v _ hzo hyo hT3 HV.out).mono ?_); rintro e w4 ⟨rfl, hA4⟩; have hS4 := hS3.on hA4; have hRest5 := hRest4.below hA4 (Nat.le_trans hsd hs3) hRest4.here.lt; obtain ⟨k0, k1, k2, k3⟩ := Arr.c4 (d := zeroD) hS4; obtain ⟨f0, f1, f2, f3⟩ := hS4.f4))
  all_goals
    have hRf := put4 (d := v) hS4 rfl
    have hBf : Rest w.heap.size g w ((((w4.setCell ⟨w.heap.size + 1, 0, none⟩ (.int .u32 v.d0)).setCell ⟨w.heap.size + 1, 1, none⟩ (.int .u32 v.d1)).setCell ⟨w.heap.size + 1, 2, none⟩ (.int .u32 v.d2)).setCell ⟨w.heap.size + 1, 3, none⟩ (.int .u32 v.d3)) (.slice a q2.length cap) s2 := hRest5.put4 (by omega) (by omega) v
    go_wp2_with fail
    generalize ((((w4.setCell ⟨w.heap.size + 1, 0, none⟩ (.int .u32 v.d0)).setCell ⟨w.heap.size + 1, 1, none⟩ (.int .u32 v.d1)).setCell ⟨w.heap.size + 1, 2, none⟩ (.int .u32 v.d2)).setCell ⟨w.heap.size + 1, 3, none⟩ (.int .u32 v.d3)) = wf at *
    obtain ⟨r0, r1, r2, r3⟩ := hRf.c4
    refine bodyPost_ret (v := v.val) (by simp [results, Tryd.results33, go_sem, D4.val, r0, r1, r2, r3]) rfl ⟨by rw [HE.out]; rfl, by rw [HE.out]; exact hBf⟩
set_option maxHeartbeats 4000000 in
set_option maxRecDepth 100000 in
theorem rr_right (n : Nat) (h2 : 2 ≤ n) (hle : n ≤ 1000000) (H : RRC (n - half n)) (i : Nat) (hi : ¬ i < half n) (x : D4) (q : List D4) (s : Bool) (g cap : Nat) (a : Option Addr) (w : World) (hil : i ≤ 1000000) (hx : x.ok) (hq : allD4 q) (hR : restB g (.slice a q.length cap) s w) (hr : RdG g w a q) (hc : q.length ≤ cap) (hm : cap ≤ maxLen) (hT : TurnsOk w) :
    Calls Tryd.prog 33 #[.pointer (some ⟨g, 0, none⟩), .int .i64 (n : Int), .int .i64 (i : Int), x.val] w fun e w' => e = .returned (rootF n i x q s).1.val ∧ Rest w.heap.size g w w' (.slice a (rootF n i x q s).2.1.length cap) (rootF n i x q s).2.2 := by
  have hk1 := half_lt h2
  have hk0 := half_pos n
  obtain ⟨k, hk⟩ : ∃ k, half n = k := ⟨_, rfl⟩
  obtain ⟨⟨y, q1, s1⟩, ht⟩ : ∃ t, takeF q s = t := ⟨_, rfl⟩
  obtain ⟨⟨z, q2, s2⟩, hz⟩ : ∃ t, rootF (n - half n) (i - half n) x q1 s1 = t := ⟨_, rfl⟩
  obtain ⟨v, hv⟩ : ∃ v, pairS y z = v := ⟨_, rfl⟩
  have HE : Hid (rootF n i x q s = (v, q2, s2)) := by show _ = _; rw [rootF_right (by omega) hi, ht, ← hv]; show (pairS y (rootF (n - half n) (i - half n) x q1 s1).1, (rootF (n - half n) (i - half n) x q1 s1).2) = _; rw [hz]
  have hto := takeF_ok hq s
  rw [ht] at hto
  obtain ⟨hyo, hq1⟩ := hto
  have hyo : y.ok := hyo
  have hq1 : allD4 q1 := hq1
  have hzo : z.ok := by
    have := rootF_ok (n - half n) (i - half n) x q1 s1 hx hq1
    rw [hz] at this
    exact this
  rw [hk] at hk0 hk1 hi H hz
  obtain ⟨N, hN⟩ : ∃ N, q.length = N := ⟨_, rfl⟩
  rw [hN] at hR hc
  have HT := Lib.hid ht
  have HZ := Lib.hid hz
  have HV := Lib.hid hv
  have HK := Lib.hid hk
  have HN := Lib.hid hN
  clear ht hz hv hk hN
  have hn1 : ((n : Int) == 1) = false := by simp; omega
  have hdi : decide ((i : Int) < (k : Int)) = false := by simp; omega
  obtain ⟨w0, hw0⟩ : ∃ w0, (w.alloc (.cells #[.int .u32 x.d0, .int .u32 x.d1, .int .u32 x.d2, .int .u32 x.d3] 26)).alloc (.cells #[.int .u32 0, .int .u32 0, .int .u32 0, .int .u32 0] 26) = w0 := ⟨_, rfl⟩
  obtain ⟨hL, hS, hB, hsz⟩ := start44 x w w0 hw0
  have hg := hR.lt
  have hRest0 := Rest.ofBelow hB (hR.on hB hg)
  have hr0 := hr.on hB
  have hT0 := hT.below hB
  clear hr hT hR hB
  go_enter Tryd.func33, Tryd.ntmps33
  simp only [D4.val]
  go_wp2_with fail
  clear hw0
  refine (chalf_any n w0 h2 hle).mono ?_
  rintro e w0 ⟨rfl, rfl⟩
  rw [HK.out]
  go_wp2_with fail
  refine (rtk_any q q1 y g cap a s s1 N w0 HT.out HN.out.symm hRest0.here hr0 hc hm).mono ?_
  rintro e w1 ⟨rfl, hA1, hr1, hc1⟩
  have hT1 := hT0.onR hA1 (Nat.le_refl _) hRest0.here
  have hL1 := hL.onR hA1 hL.lt (by omega)
  have hS1 := hS.onR hA1 hS.lt (by omega)
  have hRest1 := hRest0.trans hA1 hRest0.size
  have hs1 := Nat.le_trans hRest0.size hA1.size
  have hs01 : w.heap.size + 1 + 1 ≤ w1.heap.size := by have := hA1.size; omega
  clear hr0 hT0 hL hS hRest0 hA1 hsz hs1
  obtain ⟨w2, hw2⟩ : ∃ w2, w1.alloc (.cells #[.int .u32 y.d0, .int .u32 y.d1, .int .u32 y.d2, .int .u32 y.d3] 26) = w2 := ⟨_, rfl⟩
  have hY2 : Arr .u32 26 w1.heap.size y.toL w2 := by rw [← hw2]; exact heap_alloc_new w1 _
  have hAl : Below w1.heap.size w1 w2 := by rw [← hw2]; exact (Below.refl _ _).alloc (Nat.le_refl _) _
  have hL2 := hL1.on hAl
  have hS2 := hS1.on hAl
  have hT2 := hT1.below hAl
  have hr2 := hr1.on hAl
  have hRest2 := hRest1.below hAl (by omega) (by omega)
  have hs12 := hAl.size
  have hlt2 := hY2.lt
  clear hL1 hS1 hT1 hr1 hRest1 hAl
  obtain ⟨l0, l1, l2, l3⟩ := Arr.c4 hL2
  obtain ⟨y0, y1, y2, y3⟩ := Arr.c4 hY2
  have hwn : IntKind.i64.wrap ((n : Int) - (k : Int)) = ((n - k : Nat) : Int) := by rw [IntWalk.i64_in _ (by omega)]; omega
  have hwi : IntKind.i64.wrap ((i : Int) - (k : Int)) = ((i - k : Nat) : Int) := by rw [IntWalk.i64_in _ (by omega)]; omega
  go_wp2_with fail
  have hRest3 : Rest w.heap.size g w w2.drew (.slice a q1.length cap) s1 := hRest2.below (Below.refl _ _).drew (by omega) hRest2.here.lt
  have hrB : restB g (.slice a q1.length cap) s1 w2.drew := hRest2.here
  have hrd : RdG g w2.drew a q1 := hr2
  have hTd : TurnsOk w2.drew := hT2
  have hYd : Arr .u32 26 w1.heap.size y.toL w2.drew := hY2
  have hSd : Arr .u32 26 (w.heap.size + 1) [0, 0, 0, 0] w2.drew := hS2
  have hsd : w.heap.size ≤ w2.drew.heap.size := by show _ ≤ w2.heap.size; omega
  have hL4 := Arr.c4 (show Arr .u32 26 w.heap.size x.toL w2.drew from hL2)
  have hY4 := hYd.c4
  have hS0 : w2.drew.cell? ⟨w.heap.size, 0, none⟩ = some (.int .u32 x.d0) ∧ w2.drew.cell? ⟨w.heap.size, 1, none⟩ = some (.int .u32 x.d1) ∧ w2.drew.cell? ⟨w.heap.size, 2, none⟩ = some (.int .u32 x.d2) ∧ w2.drew.cell? ⟨w.heap.size, 3, none⟩ = some (.int .u32 x.d3) ∧ w2.drew.cell? ⟨w1.heap.size, 0, none⟩ = some (.int .u32 y.d0) ∧ w2.drew.cell? ⟨w1.heap.size, 1, none⟩ = some (.int .u32 y.d1) ∧ w2.drew.cell? ⟨w1.heap.size, 2, none⟩ = some (.int .u32 y.d2) ∧ w2.drew.cell? ⟨w1.heap.size, 3, none⟩ = some (.int .u32 y.d3) := ⟨hL4.1, hL4.2.1, hL4.2.2.1, hL4.2.2.2, hY4.1, hY4.2.1, hY4.2.2.1, hY4.2.2.2⟩
  have HS0 := Lib.hid hS0
  have hxg : w.heap.size ≠ g := by omega
  have hyg : w1.heap.size ≠ g := by omega
  have hxc : w.heap.size ≠ w.heap.size + 1 := by omega
  have hyc : w1.heap.size ≠ w.heap.size + 1 := by omega
  clear hRest2 hr2 hT2 hS2 hS0 hL4 hY4 hL2 hY2 l0 l1 l2 l3 y0 y1 y2 y3 hw2
  go_region_held3 (fun w' => w'.cell? ⟨w.heap.size, 0, none⟩ = some (.int .u32 x.d0) ∧ w'.cell? ⟨w.heap.size, 1, none⟩ = some (.int .u32 x.d1) ∧ w'.cell? ⟨w.heap.size, 2, none⟩ = some (.int .u32 x.d2) ∧ w'.cell? ⟨w.heap.size, 3, none⟩ = some (.int .u32 x.d3) ∧ w'.cell? ⟨w1.heap.size, 0, none⟩ = some (.int .u32 y.d0) ∧ w'.cell? ⟨w1.heap.size, 1, none⟩ = some (.int .u32 y.d1) ∧ w'.cell? ⟨w1.heap.size, 2, none⟩ = some (.int .u32 y.d2) ∧ w'.cell? ⟨w1.heap.size, 3, none⟩ = some (.int .u32 y.d3))
    (first | ((with_reducible refine keep2s hxc hyc ?_); assumption) | ((with_reducible refine keep2b hA4 ?_); assumption) | ((with_reducible refine keep2r hA3 hxg hyg ?_); assumption) | (with_reducible exact HS0.out))
    (first
      | (go_at_call 33; (with_reducible refine (rr_val (n - k) H (i - k) x z q1 q2 s1 s2 g cap a _ _ _ (by first | rfl | omega) (by first | rfl | omega) (by omega) hx hq1 hrB hrd hc1 hm hTd HZ.out).mono ?_); rintro e w3 ⟨rfl, hA3⟩; have hY3 := hYd.onR hA3 hYd.lt (by omega); have hS3 := hSd.onR hA3 hSd.lt (by omega); have hRest4 := hRest3.trans hA3 hsd; have hT3 := hTd.onR hA3 (Nat.le_refl _) hrB; have hs3 := hA3.size; obtain ⟨t0, t1, t2, t3⟩ := Arr.c4 hY3)
      | (go_at_call 29; (with_reducible refine (cpair_val y z v _ hyo hzo hT3 HV.out).mono ?_); rintro e w4 ⟨rfl, hA4⟩; have hS4 := hS3.on hA4; have hRest5 := hRest4.below hA4 (Nat.le_trans hsd hs3) hRest4.here.lt; obtain ⟨k0, k1, k2, k3⟩ := Arr.c4 (d := zeroD) hS4; obtain ⟨f0, f1, f2, f3⟩ := hS4.f4))
  all_goals
    have hRf := put4 (d := v) hS4 rfl
    have hBf : Rest w.heap.size g w ((((w4.setCell ⟨w.heap.size + 1, 0, none⟩ (.int .u32 v.d0)).setCell ⟨w.heap.size + 1, 1, none⟩ (.int .u32 v.d1)).setCell ⟨w.heap.size + 1, 2, none⟩ (.int .u32 v.d2)).setCell ⟨w.heap.size + 1, 3, none⟩ (.int .u32 v.d3)) (.slice a q2.length cap) s2 := hRest5.put4 (by omega) (by omega) v
    go_wp2_with fail
    generalize ((((w4.setCell ⟨w.heap.size + 1, 0, none⟩ (.int .u32 v.d0)).setCell ⟨w.heap.size + 1, 1, none⟩ (.int .u32 v.d1)).setCell ⟨w.heap.size + 1, 2, none⟩ (.int .u32 v.d2)).setCell ⟨w.heap.size + 1, 3, none⟩ (.int .u32 v.d3)) = wf at *
    obtain ⟨r0, r1, r2, r3⟩ := hRf.c4
    refine bodyPost_ret (v := v.val) (by simp [results, Tryd.results33, go_sem, D4.val, r0, r1, r2, r3]) rfl ⟨by rw [HE.out]; rfl, by rw [HE.out]; exact hBf⟩
theorem rr_all : ∀ (n : Nat), 1 ≤ n → n ≤ 1000000 → RRC n := by
  intro n
  induction n using Nat.strongRecOn with
  | _ n ih =>
    intro h1 hle
    by_cases q : n = 1
    · subst q; exact rr_one
    · have h2 : 2 ≤ n := by omega
      have hl := half_lt h2
      have hp := half_pos n
      intro i x l s g cap a w hi hx hq hR hr hc hm hT
      by_cases k : i < half n
      · exact rr_left n h2 hle (ih _ hl hp (by omega)) i k x l s g cap a w hi hx hq hR hr hc hm hT
      · exact rr_right n h2 hle (ih _ (by omega) (by omega) (by omega)) i k x l s g cap a w hi hx hq hR hr hc hm hT
end Go.Proofs.YtnimbclnhgbdcaaDoor
