/-
  Both roots that come of a proof that is used up from its end: the code's roots (written by gen_roots.py).
-/
import Derived.Test.YtnimbclnhgbdcaaDoorMkS
namespace Go.Proofs.YtnimbclnhgbdcaaDoor
open Go.RowKit Go.Lib

theorem start4zz (x : D4) (w w0 : World) (h : ((w.alloc (.cells #[.int .u32 x.d0, .int .u32 x.d1, .int .u32 x.d2, .int .u32 x.d3] 26)).alloc (.cells #[.int .u32 0, .int .u32 0, .int .u32 0, .int .u32 0] 26)).alloc (.cells #[.int .u32 0, .int .u32 0, .int .u32 0, .int .u32 0] 26) = w0) :
    Arr .u32 26 w.heap.size x.toL w0 ∧ Arr .u32 26 (w.heap.size + 1) [0, 0, 0, 0] w0 ∧ Arr .u32 26 (w.heap.size + 1 + 1) [0, 0, 0, 0] w0 ∧ Below w.heap.size w w0 ∧ w0.heap.size = w.heap.size + 1 + 1 + 1 := by
  subst h
  obtain ⟨w1, h1⟩ : ∃ w1, (w.alloc (.cells #[.int .u32 x.d0, .int .u32 x.d1, .int .u32 x.d2, .int .u32 x.d3] 26)).alloc (.cells #[.int .u32 0, .int .u32 0, .int .u32 0, .int .u32 0] 26) = w1 := ⟨_, rfl⟩
  obtain ⟨hL, hR, hB, hs⟩ := start44 x w w1 h1
  rw [h1]
  refine ⟨hL.al _, hR.al _, ?_, hB.alloc (by omega) _, by simp [hs]⟩
  rw [← hs]
  exact heap_alloc_new w1 _
/-- Both results are laid. -/
theorem fin44 {b : Nat} {w' : World} {N M : List Int} {d e : D4} (h1 : Arr .u32 26 b N w') (hn : N.length = 4) (h2 : Arr .u32 26 (b + 1) M w') (hm : M.length = 4) :
    Arr .u32 26 b d.toL ((((((((w'.setCell ⟨b, 0, none⟩ (.int .u32 d.d0)).setCell ⟨b, 1, none⟩ (.int .u32 d.d1)).setCell ⟨b, 2, none⟩ (.int .u32 d.d2)).setCell ⟨b, 3, none⟩ (.int .u32 d.d3)).setCell ⟨b + 1, 0, none⟩ (.int .u32 e.d0)).setCell ⟨b + 1, 1, none⟩ (.int .u32 e.d1)).setCell ⟨b + 1, 2, none⟩ (.int .u32 e.d2)).setCell ⟨b + 1, 3, none⟩ (.int .u32 e.d3)) ∧ Arr .u32 26 (b + 1) e.toL ((((((((w'.setCell ⟨b, 0, none⟩ (.int .u32 d.d0)).setCell ⟨b, 1, none⟩ (.int .u32 d.d1)).setCell ⟨b, 2, none⟩ (.int .u32 d.d2)).setCell ⟨b, 3, none⟩ (.int .u32 d.d3)).setCell ⟨b + 1, 0, none⟩ (.int .u32 e.d0)).setCell ⟨b + 1, 1, none⟩ (.int .u32 e.d1)).setCell ⟨b + 1, 2, none⟩ (.int .u32 e.d2)).setCell ⟨b + 1, 3, none⟩ (.int .u32 e.d3)) := by
  have p1 := put4 (d := d) h1 hn
  have p2 := far4 h2 (Nat.succ_ne_self b) d
  generalize ((((w'.setCell ⟨b, 0, none⟩ (.int .u32 d.d0)).setCell ⟨b, 1, none⟩ (.int .u32 d.d1)).setCell ⟨b, 2, none⟩ (.int .u32 d.d2)).setCell ⟨b, 3, none⟩ (.int .u32 d.d3)) = w1 at *
  exact ⟨far4 p1 (Nat.ne_of_lt (Nat.lt_succ_self b)) e, put4 (d := e) p2 hm⟩
theorem Rest.put44 {B g b : Nat} {w w1 : World} {v : Value} {s : Bool} (h : Rest B g w w1 v s) (hb : B ≤ b) (hne : b ≠ g) (hne1 : b + 1 ≠ g) (d e : D4) : Rest B g w ((((((((w1.setCell ⟨b, 0, none⟩ (.int .u32 d.d0)).setCell ⟨b, 1, none⟩ (.int .u32 d.d1)).setCell ⟨b, 2, none⟩ (.int .u32 d.d2)).setCell ⟨b, 3, none⟩ (.int .u32 d.d3)).setCell ⟨b + 1, 0, none⟩ (.int .u32 e.d0)).setCell ⟨b + 1, 1, none⟩ (.int .u32 e.d1)).setCell ⟨b + 1, 2, none⟩ (.int .u32 e.d2)).setCell ⟨b + 1, 3, none⟩ (.int .u32 e.d3)) v s :=
  (h.put4 hb hne d).put4 (Nat.le_succ_of_le hb) hne1 e
theorem Rest.drew {B g : Nat} {w w1 : World} {v : Value} {s : Bool} (h : Rest B g w w1 v s) : Rest B g w w1.drew v s := ⟨h.os, h.tape, h.output, h.size, h.block, h.here⟩
def rootsF (old : D4) (m n : Nat) (bw : Bool) (q : List D4) (s : Bool) : D4 × D4 × List D4 × Bool := ((rootsR pairS zeroD old m n bw q.reverse s).1, (rootsR pairS zeroD old m n bw q.reverse s).2.1, (rootsR pairS zeroD old m n bw q.reverse s).2.2.1.reverse, (rootsR pairS zeroD old m n bw q.reverse s).2.2.2)
theorem rootsF_whole (old : D4) (n : Nat) (q : List D4) (s : Bool) : rootsF old n n true q s = (old, old, q, s) := by simp [rootsF, rootsR_whole]
theorem rootsF_cut (old : D4) (n : Nat) (q : List D4) (s : Bool) : rootsF old n n false q s = ((takeF q s).1, (takeF q s).1, (takeF q s).2) := by simp [rootsF, rootsR_cut, takeF]
theorem rootsF_left {m n : Nat} (h : ¬ (m = n ∨ n ≤ 1)) (hm : m ≤ half n) (old : D4) (bw : Bool) (q : List D4) (s : Bool) : rootsF old m n bw q s =
    ((rootsF old m (half n) bw (takeF q s).2.1 (takeF q s).2.2).1, pairS (rootsF old m (half n) bw (takeF q s).2.1 (takeF q s).2.2).2.1 (takeF q s).1, (rootsF old m (half n) bw (takeF q s).2.1 (takeF q s).2.2).2.2) := by
  simp only [rootsF, takeF, rootsR_left pairS zeroD h hm, List.reverse_reverse]
theorem rootsF_right {m n : Nat} (h : ¬ (m = n ∨ n ≤ 1)) (hm : ¬ m ≤ half n) (old : D4) (bw : Bool) (q : List D4) (s : Bool) : rootsF old m n bw q s =
    (pairS (takeF q s).1 (rootsF old (m - half n) (n - half n) false (takeF q s).2.1 (takeF q s).2.2).1, pairS (takeF q s).1 (rootsF old (m - half n) (n - half n) false (takeF q s).2.1 (takeF q s).2.2).2.1, (rootsF old (m - half n) (n - half n) false (takeF q s).2.1 (takeF q s).2.2).2.2) := by
  simp only [rootsF, takeF, rootsR_right pairS zeroD h hm, List.reverse_reverse]
theorem rootsF_ok : ∀ (n : Nat) (m : Nat) (x : D4) (bw : Bool) (q : List D4) (s : Bool), 1 ≤ m → m ≤ n → x.ok → allD4 q → (rootsF x m n bw q s).1.ok ∧ (rootsF x m n bw q s).2.1.ok := by
  intro n
  induction n using Nat.strongRecOn with
  | _ n ih =>
    intro m x bw q s h1 hmn hx hq
    by_cases h : m = n
    · subst h
      cases bw
      · rw [rootsF_cut]; exact ⟨(takeF_ok hq s).1, (takeF_ok hq s).1⟩
      · rw [rootsF_whole]; exact ⟨hx, hx⟩
    · have h' : ¬ (m = n ∨ n ≤ 1) := by omega
      have hl := half_lt (show 2 ≤ n by omega)
      have hp := half_pos n
      obtain ⟨t1, t2⟩ := takeF_ok hq s
      by_cases k : m ≤ half n
      · obtain ⟨a, b⟩ := ih _ hl m x bw _ (takeF q s).2.2 h1 k hx t2
        rw [rootsF_left h' k]; exact ⟨a, pairS_ok b t1⟩
      · obtain ⟨a, b⟩ := ih (n - half n) (by omega) (m - half n) x false _ (takeF q s).2.2 (by omega) (by omega) hx t2
        rw [rootsF_right h' k]; exact ⟨pairS_ok t1 a, pairS_ok t1 b⟩
/-- What the code's roots answers. -/
def RTS (n : Nat) : Prop := ∀ (m : Nat) (x : D4) (bw : Bool) (q : List D4) (s : Bool) (g cap : Nat) (a : Option Addr) (w : World), 1 ≤ m → m ≤ n → x.ok → allD4 q → restB g (.slice a q.length cap) s w → RdG g w a q → q.length ≤ cap → cap ≤ maxLen → TurnsOk w →
  Calls Tryd.prog 38 #[.pointer (some ⟨g, 0, none⟩), x.val, .int .i64 (m : Int), .int .i64 (n : Int), .bool bw] w fun e w' => e = .returned (.tuple #[(rootsF x m n bw q s).1.val, (rootsF x m n bw q s).2.1.val]) ∧ Rest w.heap.size g w w' (.slice a (rootsF x m n bw q s).2.2.1.length cap) (rootsF x m n bw q s).2.2.2
theorem rts_val (n : Nat) (H : RTS n) (m : Nat) (x f z : D4) (bw : Bool) (q q' : List D4) (s s' : Bool) (g cap : Nat) (a : Option Addr) (u v : Int) (w : World) (hu : (m : Int) = u) (hv : (n : Int) = v) (h1 : 1 ≤ m) (hmn : m ≤ n) (hx : x.ok) (hq : allD4 q) (hR : restB g (.slice a q.length cap) s w) (hr : RdG g w a q) (hc : q.length ≤ cap) (hm : cap ≤ maxLen) (hT : TurnsOk w) (hz : rootsF x m n bw q s = (f, z, q', s')) :
    Calls Tryd.prog 38 #[.pointer (some ⟨g, 0, none⟩), .agg #[.int .u32 x.d0, .int .u32 x.d1, .int .u32 x.d2, .int .u32 x.d3], .int .i64 u, .int .i64 v, .bool bw] w fun e w' => e = .returned (.tuple #[.agg #[.int .u32 f.d0, .int .u32 f.d1, .int .u32 f.d2, .int .u32 f.d3], .agg #[.int .u32 z.d0, .int .u32 z.d1, .int .u32 z.d2, .int .u32 z.d3]]) ∧ Rest w.heap.size g w w' (.slice a q'.length cap) s' := by
  subst hu; subst hv
  have := H m x bw q s g cap a w h1 hmn hx hq hR hr hc hm hT
  rw [hz] at this
  exact this
set_option maxHeartbeats 2000000 in
set_option maxRecDepth 100000 in
theorem rts_whole (n : Nat) (x : D4) (q : List D4) (s : Bool) (g cap : Nat) (a : Option Addr) (w : World) (hR : restB g (.slice a q.length cap) s w) :
    Calls Tryd.prog 38 #[.pointer (some ⟨g, 0, none⟩), x.val, .int .i64 (n : Int), .int .i64 (n : Int), .bool true] w fun e w' => e = .returned (.tuple #[(rootsF x n n true q s).1.val, (rootsF x n n true q s).2.1.val]) ∧ Rest w.heap.size g w w' (.slice a (rootsF x n n true q s).2.2.1.length cap) (rootsF x n n true q s).2.2.2 := by
  have HE : Hid (rootsF x n n true q s = (x, x, q, s)) := rootsF_whole x n q s
  rw [HE.out]
  obtain ⟨N, hN⟩ : ∃ N, q.length = N := ⟨_, rfl⟩
  show Calls _ _ _ w fun e w' => e = .returned (.tuple #[x.val, x.val]) ∧ Rest w.heap.size g w w' (.slice a q.length cap) s
  rw [hN] at hR ⊢
  clear hN
  obtain ⟨w0, hw0⟩ : ∃ w0, ((w.alloc (.cells #[.int .u32 x.d0, .int .u32 x.d1, .int .u32 x.d2, .int .u32 x.d3] 26)).alloc (.cells #[.int .u32 0, .int .u32 0, .int .u32 0, .int .u32 0] 26)).alloc (.cells #[.int .u32 0, .int .u32 0, .int .u32 0, .int .u32 0] 26) = w0 := ⟨_, rfl⟩
  obtain ⟨hL, hA, hS, hB, hsz⟩ := start4zz x w w0 hw0
  have hg := hR.lt
  have hRest : Rest w.heap.size g w w0 (.slice a N cap) s := Rest.ofBelow hB (hR.on hB hg)
  obtain ⟨hf1, hf2⟩ := fin44 (d := x) (e := x) hA rfl hS rfl
  have hBf := hRest.put44 (b := w.heap.size + 1) (by omega) (by omega) (by omega) x x
  obtain ⟨l0, l1, l2, l3⟩ := Arr.c4 hL
  obtain ⟨k0, k1, k2, k3⟩ := Arr.c4 (d := zeroD) hA
  obtain ⟨f0, f1, f2, f3⟩ := hA.f4
  obtain ⟨m0, m1, m2, m3⟩ := Arr.c4 (d := zeroD) hS
  obtain ⟨e0, e1, e2, e3⟩ := hS.f4
  clear hL hA hS hB hRest hR
  go_enter Tryd.func38, Tryd.ntmps38
  simp only [D4.val]
  go_wp2_with fail
  clear hw0
  go_region
  all_goals
    clear k0 k1 k2 k3 f0 f1 f2 f3 m0 m1 m2 m3 e0 e1 e2 e3
    go_wp2_with fail
    generalize ((((((((w0.setCell ⟨w.heap.size + 1, 0, none⟩ (.int .u32 x.d0)).setCell ⟨w.heap.size + 1, 1, none⟩ (.int .u32 x.d1)).setCell ⟨w.heap.size + 1, 2, none⟩ (.int .u32 x.d2)).setCell ⟨w.heap.size + 1, 3, none⟩ (.int .u32 x.d3)).setCell ⟨w.heap.size + 1 + 1, 0, none⟩ (.int .u32 x.d0)).setCell ⟨w.heap.size + 1 + 1, 1, none⟩ (.int .u32 x.d1)).setCell ⟨w.heap.size + 1 + 1, 2, none⟩ (.int .u32 x.d2)).setCell ⟨w.heap.size + 1 + 1, 3, none⟩ (.int .u32 x.d3)) = wf at *
    obtain ⟨r0, r1, r2, r3⟩ := (show Arr .u32 26 (w.heap.size + 1) _ wf.drew from hf1).c4
    obtain ⟨u0, u1, u2, u3⟩ := (show Arr .u32 26 (w.heap.size + 1 + 1) _ wf.drew from hf2).c4
    refine bodyPost_ret (v := .tuple #[x.val, x.val]) (by simp [results, Tryd.results38, go_sem, D4.val, r0, r1, r2, r3, u0, u1, u2, u3]) rfl ⟨rfl, hBf.drew⟩
set_option maxHeartbeats 2000000 in
set_option maxRecDepth 100000 in
theorem rts_cut (n : Nat) (x : D4) (q : List D4) (s : Bool) (g cap : Nat) (a : Option Addr) (w : World) (hR : restB g (.slice a q.length cap) s w) (hr : RdG g w a q) (hc : q.length ≤ cap) (hm : cap ≤ maxLen) :
    Calls Tryd.prog 38 #[.pointer (some ⟨g, 0, none⟩), x.val, .int .i64 (n : Int), .int .i64 (n : Int), .bool false] w fun e w' => e = .returned (.tuple #[(rootsF x n n false q s).1.val, (rootsF x n n false q s).2.1.val]) ∧ Rest w.heap.size g w w' (.slice a (rootsF x n n false q s).2.2.1.length cap) (rootsF x n n false q s).2.2.2 := by
  obtain ⟨⟨y, q1, s1⟩, ht⟩ : ∃ t, takeF q s = t := ⟨_, rfl⟩
  have HE : Hid (rootsF x n n false q s = (y, y, q1, s1)) := by show _ = _; rw [rootsF_cut, ht]
  rw [HE.out]
  obtain ⟨N, hN⟩ : ∃ N, q.length = N := ⟨_, rfl⟩
  show Calls _ _ _ w fun e w' => e = .returned (.tuple #[y.val, y.val]) ∧ Rest w.heap.size g w w' (.slice a q1.length cap) s1
  rw [hN] at hR hc
  have HT := Lib.hid ht
  have HN := Lib.hid hN
  clear hN ht
  obtain ⟨w0, hw0⟩ : ∃ w0, ((w.alloc (.cells #[.int .u32 x.d0, .int .u32 x.d1, .int .u32 x.d2, .int .u32 x.d3] 26)).alloc (.cells #[.int .u32 0, .int .u32 0, .int .u32 0, .int .u32 0] 26)).alloc (.cells #[.int .u32 0, .int .u32 0, .int .u32 0, .int .u32 0] 26) = w0 := ⟨_, rfl⟩
  obtain ⟨hL, hA, hS, hB, hsz⟩ := start4zz x w w0 hw0
  have hg := hR.lt
  have hRest0 : Rest w.heap.size g w w0 (.slice a N cap) s := Rest.ofBelow hB (hR.on hB hg)
  have hr0 := hr.on hB
  clear hr hR hB
  go_enter Tryd.func38, Tryd.ntmps38
  simp only [D4.val]
  go_wp2_with fail
  clear hw0
  refine (rtk_any q q1 y g cap a s s1 N w0 HT.out HN.out.symm hRest0.here hr0 hc hm).mono ?_
  rintro e w1 ⟨rfl, hA1, hr1, hc1⟩
  have hL1 := hL.onR hA1 hL.lt (by omega)
  have hA2 := hA.onR hA1 hA.lt (by omega)
  have hS1 := hS.onR hA1 hS.lt (by omega)
  have hRest1 := hRest0.trans hA1 hRest0.size
  clear hr0 hL hA hS hRest0 hA1
  obtain ⟨l0, l1, l2, l3⟩ := Arr.c4 hL1
  obtain ⟨n0, n1, n2, n3⟩ := hL1.f4
  obtain ⟨w2, hw2⟩ : ∃ w2, ((((w1.setCell ⟨w.heap.size, 0, none⟩ (.int .u32 y.d0)).setCell ⟨w.heap.size, 1, none⟩ (.int .u32 y.d1)).setCell ⟨w.heap.size, 2, none⟩ (.int .u32 y.d2)).setCell ⟨w.heap.size, 3, none⟩ (.int .u32 y.d3)) = w2 := ⟨_, rfl⟩
  have hL2 : Arr .u32 26 w.heap.size y.toL w2 := by rw [← hw2]; exact put4 (d := y) hL1 rfl
  have hA3 : Arr .u32 26 (w.heap.size + 1) [0, 0, 0, 0] w2 := by rw [← hw2]; exact far4 hA2 (by omega) y
  have hS2 : Arr .u32 26 (w.heap.size + 1 + 1) [0, 0, 0, 0] w2 := by rw [← hw2]; exact far4 hS1 (by omega) y
  have hRest2 : Rest w.heap.size g w w2 (.slice a q1.length cap) s1 := by rw [← hw2]; exact hRest1.put4 (Nat.le_refl _) (by omega) y
  clear hL1 hA2 hS1 hRest1
  go_wp2_with fail
  clear l0 l1 l2 l3 n0 n1 n2 n3
  obtain ⟨hf1, hf2⟩ := fin44 (d := y) (e := y) hA3 rfl hS2 rfl
  have hBf := hRest2.put44 (b := w.heap.size + 1) (by omega) (by omega) (by omega) y y
  obtain ⟨l0, l1, l2, l3⟩ := Arr.c4 hL2
  obtain ⟨k0, k1, k2, k3⟩ := Arr.c4 (d := zeroD) hA3
  obtain ⟨f0, f1, f2, f3⟩ := hA3.f4
  obtain ⟨m0, m1, m2, m3⟩ := Arr.c4 (d := zeroD) hS2
  obtain ⟨e0, e1, e2, e3⟩ := hS2.f4
  clear hL2 hA3 hS2 hRest2
  go_region
  all_goals
    clear k0 k1 k2 k3 f0 f1 f2 f3 m0 m1 m2 m3 e0 e1 e2 e3
    go_wp2_with fail
    generalize ((((((((w2.setCell ⟨w.heap.size + 1, 0, none⟩ (.int .u32 y.d0)).setCell ⟨w.heap.size + 1, 1, none⟩ (.int .u32 y.d1)).setCell ⟨w.heap.size + 1, 2, none⟩ (.int .u32 y.d2)).setCell ⟨w.heap.size + 1, 3, none⟩ (.int .u32 y.d3)).setCell ⟨w.heap.size + 1 + 1, 0, none⟩ (.int .u32 y.d0)).setCell ⟨w.heap.size + 1 + 1, 1, none⟩ (.int .u32 y.d1)).setCell ⟨w.heap.size + 1 + 1, 2, none⟩ (.int .u32 y.d2)).setCell ⟨w.heap.size + 1 + 1, 3, none⟩ (.int .u32 y.d3)) = wf at *
    obtain ⟨r0, r1, r2, r3⟩ := (show Arr .u32 26 (w.heap.size + 1) _ wf.drew from hf1).c4
    obtain ⟨u0, u1, u2, u3⟩ := (show Arr .u32 26 (w.heap.size + 1 + 1) _ wf.drew from hf2).c4
    refine bodyPost_ret (v := .tuple #[y.val, y.val]) (by simp [results, Tryd.results38, go_sem, D4.val, r0, r1, r2, r3, u0, u1, u2, u3]) rfl ⟨rfl, hBf.drew⟩
theorem keep1 {x : D4} {X : Nat} {W w' : World} (h1 : w'.heap[X]? = W.heap[X]?) (f : W.cell? ⟨X, 0, none⟩ = some (.int .u32 x.d0) ∧ W.cell? ⟨X, 1, none⟩ = some (.int .u32 x.d1) ∧ W.cell? ⟨X, 2, none⟩ = some (.int .u32 x.d2) ∧ W.cell? ⟨X, 3, none⟩ = some (.int .u32 x.d3)) : w'.cell? ⟨X, 0, none⟩ = some (.int .u32 x.d0) ∧ w'.cell? ⟨X, 1, none⟩ = some (.int .u32 x.d1) ∧ w'.cell? ⟨X, 2, none⟩ = some (.int .u32 x.d2) ∧ w'.cell? ⟨X, 3, none⟩ = some (.int .u32 x.d3) := by
  have e1 : ∀ j, w'.cell? ⟨X, j, none⟩ = W.cell? ⟨X, j, none⟩ := fun j => World.cell?_of_block (w := W) h1
  simp only [e1]
  exact f
theorem keep1b {x : D4} {X : Nat} {W w' : World} (h : Below W.heap.size W w') (f : W.cell? ⟨X, 0, none⟩ = some (.int .u32 x.d0) ∧ W.cell? ⟨X, 1, none⟩ = some (.int .u32 x.d1) ∧ W.cell? ⟨X, 2, none⟩ = some (.int .u32 x.d2) ∧ W.cell? ⟨X, 3, none⟩ = some (.int .u32 x.d3)) : w'.cell? ⟨X, 0, none⟩ = some (.int .u32 x.d0) ∧ w'.cell? ⟨X, 1, none⟩ = some (.int .u32 x.d1) ∧ w'.cell? ⟨X, 2, none⟩ = some (.int .u32 x.d2) ∧ w'.cell? ⟨X, 3, none⟩ = some (.int .u32 x.d3) := keep1 (h.block X (cell_inS f.1)) f
theorem keep1s {x v : D4} {X C : Nat} {W : World} (hX : X ≠ C) (f : W.cell? ⟨X, 0, none⟩ = some (.int .u32 x.d0) ∧ W.cell? ⟨X, 1, none⟩ = some (.int .u32 x.d1) ∧ W.cell? ⟨X, 2, none⟩ = some (.int .u32 x.d2) ∧ W.cell? ⟨X, 3, none⟩ = some (.int .u32 x.d3)) : ((((W.setCell ⟨C, 0, none⟩ (.int .u32 v.d0)).setCell ⟨C, 1, none⟩ (.int .u32 v.d1)).setCell ⟨C, 2, none⟩ (.int .u32 v.d2)).setCell ⟨C, 3, none⟩ (.int .u32 v.d3)).cell? ⟨X, 0, none⟩ = some (.int .u32 x.d0) ∧ ((((W.setCell ⟨C, 0, none⟩ (.int .u32 v.d0)).setCell ⟨C, 1, none⟩ (.int .u32 v.d1)).setCell ⟨C, 2, none⟩ (.int .u32 v.d2)).setCell ⟨C, 3, none⟩ (.int .u32 v.d3)).cell? ⟨X, 1, none⟩ = some (.int .u32 x.d1) ∧ ((((W.setCell ⟨C, 0, none⟩ (.int .u32 v.d0)).setCell ⟨C, 1, none⟩ (.int .u32 v.d1)).setCell ⟨C, 2, none⟩ (.int .u32 v.d2)).setCell ⟨C, 3, none⟩ (.int .u32 v.d3)).cell? ⟨X, 2, none⟩ = some (.int .u32 x.d2) ∧ ((((W.setCell ⟨C, 0, none⟩ (.int .u32 v.d0)).setCell ⟨C, 1, none⟩ (.int .u32 v.d1)).setCell ⟨C, 2, none⟩ (.int .u32 v.d2)).setCell ⟨C, 3, none⟩ (.int .u32 v.d3)).cell? ⟨X, 3, none⟩ = some (.int .u32 x.d3) :=
  keep1 (by rw [Below.heap_setCell _ _ _ _ hX, Below.heap_setCell _ _ _ _ hX, Below.heap_setCell _ _ _ _ hX, Below.heap_setCell _ _ _ _ hX]) f
end Go.Proofs.YtnimbclnhgbdcaaDoor
