/-
  What a proof tells of a leaf: the document's up.
-/
import Derived.Test.YtnimbclnhgbdcaaDoorMkE
namespace Go.Proofs.YtnimbclnhgbdcaaDoor
open Go.RowKit

theorem start44 (a : D4) (w w0 : World) (h : (w.alloc (.cells #[.int .u32 a.d0, .int .u32 a.d1, .int .u32 a.d2, .int .u32 a.d3] 26)).alloc (.cells #[.int .u32 0, .int .u32 0, .int .u32 0, .int .u32 0] 26) = w0) :
    Arr .u32 26 w.heap.size a.toL w0 ∧ Arr .u32 26 (w.heap.size + 1) [0, 0, 0, 0] w0 ∧ Below w.heap.size w w0 ∧ w0.heap.size = w.heap.size + 1 + 1 := by
  subst h
  obtain ⟨w1, h1⟩ : ∃ w1, w.alloc (.cells #[.int .u32 a.d0, .int .u32 a.d1, .int .u32 a.d2, .int .u32 a.d3] 26) = w1 := ⟨_, rfl⟩
  have hA1 : Arr .u32 26 w.heap.size a.toL w1 := by rw [← h1]; exact heap_alloc_new w _
  have a1 : w1.heap.size = w.heap.size + 1 := by rw [← h1]; simp
  have B1 : Below w.heap.size w w1 := by rw [← h1]; exact (Below.refl _ _).alloc (Nat.le_refl _) _
  rw [h1]
  refine ⟨hA1.al _, ?_, B1.alloc (by omega) _, by simp [a1]⟩
  rw [← a1]
  exact heap_alloc_new w1 _
theorem allD4.left {p q : List D4} (h : allD4 (p ++ q)) : allD4 p := fun d hd => h d (by simp [hd])
theorem allD4.lastOk {p : List D4} {x : D4} (h : allD4 (p ++ [x])) : x.ok := h x (by simp)
theorem RdL.last {w : World} {b o : Nat} {p : List D4} {x : D4} (h : RdL w b o (p ++ [x])) : dgAt w b (o + p.length * 4) x := by
  have := h.2 p.length (by simp)
  simpa using this
theorem RdL.init {w : World} {b o : Nat} {p : List D4} {x : D4} (h : RdL w b o (p ++ [x])) : RdL w b o p := by
  have := h.take p.length
  simpa using this

def upD (n i : Nat) (x : D4) (p : List D4) : D4 × Bool := up pairS n i x p
/-- What the document's up answers, of a proof. -/
def UpC (p : List D4) : Prop := ∀ (n i : Nat) (x : D4) (a : Option Addr) (cap : Nat) (w : World), 1 ≤ n → n ≤ 1000000 → i ≤ 1000000 → x.ok → RdS w a p → p.length ≤ cap → cap ≤ maxLen →
  Calls Tryd.prog 35 #[.int .i64 (n : Int), .int .i64 (i : Int), x.val, .slice a p.length cap] w fun e w' => e = .returned (.tuple #[(upD n i x p).1.val, .bool (upD n i x p).2]) ∧ Below w.heap.size w w'
set_option maxHeartbeats 2000000 in
set_option maxRecDepth 100000 in
theorem up_cOne (p : List D4) (i : Nat) (x : D4) (a : Option Addr) (cap : Nat) (w : World) : Calls Tryd.prog 35 #[.int .i64 ((1 : Nat) : Int), .int .i64 (i : Int), x.val, .slice a p.length cap] w fun e w' => e = .returned (.tuple #[(upD 1 i x p).1.val, .bool (upD 1 i x p).2]) ∧ Below w.heap.size w w' := by
  obtain ⟨bl, hbl⟩ : ∃ bl, ((p.length : Int) == 0) = bl := ⟨_, rfl⟩
  have HE : Hid (upD 1 i x p = (x, bl)) := by
    show _ = _
    rw [upD, up_one _ _ _ (Nat.le_refl _), ← hbl]
    cases p with
    | nil => rfl
    | cons a r => congr 1
  obtain ⟨w0, hw0⟩ : ∃ w0, (w.alloc (.cells #[.int .u32 x.d0, .int .u32 x.d1, .int .u32 x.d2, .int .u32 x.d3] 26)).alloc (.cells #[.int .u32 0, .int .u32 0, .int .u32 0, .int .u32 0] 26) = w0 := ⟨_, rfl⟩
  obtain ⟨hL, hR, hB, _⟩ := start44 x w w0 hw0
  obtain ⟨l0, l1, l2, l3⟩ := Arr.c4 hL
  obtain ⟨k0, k1, k2, k3⟩ := Arr.c4 (d := zeroD) hR
  obtain ⟨f0, f1, f2, f3⟩ := hR.f4
  have hRf := put4 (d := x) hR rfl
  have hBf := below_put4 hB (Nat.le_succ _) x
  clear hR hB hL
  go_enter Tryd.func35, Tryd.ntmps35
  simp only [D4.val]
  go_wp2_with fail
  clear hw0
  generalize (((w0.setCell ⟨w.heap.size + 1, 0, none⟩ (.int .u32 x.d0)).setCell ⟨w.heap.size + 1, 1, none⟩ (.int .u32 x.d1)).setCell ⟨w.heap.size + 1, 2, none⟩ (.int .u32 x.d2)).setCell ⟨w.heap.size + 1, 3, none⟩ (.int .u32 x.d3) = wf at *
  obtain ⟨r0, r1, r2, r3⟩ := hRf.c4
  refine bodyPost_ret (v := .tuple #[x.val, .bool bl]) (by simp [results, Tryd.results35, go_sem, D4.val, r0, r1, r2, r3]) rfl ⟨by rw [HE.out]; rfl, hBf⟩
set_option maxHeartbeats 2000000 in
set_option maxRecDepth 100000 in
theorem up_cNone (n i : Nat) (x : D4) (a : Option Addr) (cap : Nat) (w : World) (h2 : 2 ≤ n) (hle : n ≤ 1000000) : Calls Tryd.prog 35 #[.int .i64 (n : Int), .int .i64 (i : Int), x.val, .slice a 0 cap] w fun e w' => e = .returned (.tuple #[(upD n i x []).1.val, .bool (upD n i x []).2]) ∧ Below w.heap.size w w' := by
  have HE : Hid (upD n i x [] = (x, false)) := by show _ = _; rw [upD, up_none _ _ (by omega)]
  have hn1 : ((n : Int) == 1) = false := by simp; omega
  obtain ⟨w0, hw0⟩ : ∃ w0, (w.alloc (.cells #[.int .u32 x.d0, .int .u32 x.d1, .int .u32 x.d2, .int .u32 x.d3] 26)).alloc (.cells #[.int .u32 0, .int .u32 0, .int .u32 0, .int .u32 0] 26) = w0 := ⟨_, rfl⟩
  obtain ⟨hL, hR, hB, _⟩ := start44 x w w0 hw0
  obtain ⟨l0, l1, l2, l3⟩ := Arr.c4 hL
  obtain ⟨k0, k1, k2, k3⟩ := Arr.c4 (d := zeroD) hR
  obtain ⟨f0, f1, f2, f3⟩ := hR.f4
  have hRf := put4 (d := x) hR rfl
  have hBf := below_put4 hB (Nat.le_succ _) x
  clear hR hB hL
  go_enter Tryd.func35, Tryd.ntmps35
  simp only [D4.val]
  go_wp2_with fail
  clear hw0
  generalize (((w0.setCell ⟨w.heap.size + 1, 0, none⟩ (.int .u32 x.d0)).setCell ⟨w.heap.size + 1, 1, none⟩ (.int .u32 x.d1)).setCell ⟨w.heap.size + 1, 2, none⟩ (.int .u32 x.d2)).setCell ⟨w.heap.size + 1, 3, none⟩ (.int .u32 x.d3) = wf at *
  obtain ⟨r0, r1, r2, r3⟩ := hRf.c4
  refine bodyPost_ret (v := .tuple #[x.val, .bool false]) (by simp [results, Tryd.results35, go_sem, D4.val, r0, r1, r2, r3]) rfl ⟨by rw [HE.out]; rfl, hBf⟩
theorem up_val (p : List D4) (H : UpC p) (z : D4) (bl : Bool) (n i : Nat) (x : D4) (b o N cap : Nat) (u v : Int) (w : World) (hu : (n : Int) = u) (hv : (i : Int) = v) (h1 : 1 ≤ n) (hle : n ≤ 1000000) (hi : i ≤ 1000000) (hx : x.ok) (hr : RdL w b o p) (hN : N = p.length) (hc : p.length ≤ cap) (hm : cap ≤ maxLen) (hz : upD n i x p = (z, bl)) :
    Calls Tryd.prog 35 #[.int .i64 u, .int .i64 v, .agg #[.int .u32 x.d0, .int .u32 x.d1, .int .u32 x.d2, .int .u32 x.d3], .slice (some ⟨b, o, none⟩) N cap] w fun e w' => e = .returned (.tuple #[.agg #[.int .u32 z.d0, .int .u32 z.d1, .int .u32 z.d2, .int .u32 z.d3], .bool bl]) ∧ Below w.heap.size w w' := by
  subst hN; subst hu; subst hv
  have := H n i x (some ⟨b, o, none⟩) cap w h1 hle hi hx (fun _ => ⟨b, o, rfl, hr⟩) hc hm
  rw [hz] at this
  exact this
set_option maxHeartbeats 4000000 in
set_option maxRecDepth 100000 in
theorem up_cL (r : List D4) (y : D4) (n i : Nat) (x : D4) (b o cap : Nat) (w : World) (h2 : 2 ≤ n) (hle : n ≤ 1000000) (hil : i ≤ 1000000) (hi : i < half n) (hx : x.ok) (hyo : y.ok) (hzo : (upD (half n) i x r).1.ok) (hr : RdL w b o (r ++ [y])) (hc : r.length + 1 ≤ cap) (hm : cap ≤ maxLen) (H : UpC r) :
    Calls Tryd.prog 35 #[.int .i64 (n : Int), .int .i64 (i : Int), x.val, .slice (some ⟨b, o, none⟩) (r.length + 1) cap] w fun e w' => e = .returned (.tuple #[(upD n i x (r ++ [y])).1.val, .bool (upD n i x (r ++ [y])).2]) ∧ Below w.heap.size w w' := by
  have hk1 := half_lt h2
  have hk0 := half_pos n
  obtain ⟨k, hk⟩ : ∃ k, half n = k := ⟨_, rfl⟩
  obtain ⟨⟨z, bl⟩, hz⟩ : ∃ z, upD (half n) i x r = z := ⟨_, rfl⟩
  obtain ⟨g, hg⟩ : ∃ g, pairS z y = g := ⟨_, rfl⟩
  have HE : Hid (upD n i x (r ++ [y]) = (g, bl)) := by show _ = _; rw [upD, up_left pairS x r y (by omega) hi]; show (pairS (upD (half n) i x r).1 y, (upD (half n) i x r).2) = _; rw [hz, ← hg]
  rw [hz] at hzo
  rw [hk] at hk0 hk1 hz hi
  have HZ := Lib.hid hz
  have HG := Lib.hid hg
  have HK := Lib.hid hk
  clear hz hg hk
  have hn1 : ((n : Int) == 1) = false := by simp; omega
  obtain ⟨w0, hw0⟩ : ∃ w0, (w.alloc (.cells #[.int .u32 x.d0, .int .u32 x.d1, .int .u32 x.d2, .int .u32 x.d3] 26)).alloc (.cells #[.int .u32 0, .int .u32 0, .int .u32 0, .int .u32 0] 26) = w0 := ⟨_, rfl⟩
  obtain ⟨hL, hR, hB, hsz⟩ := start44 x w w0 hw0
  have hr0 := hr.on hB
  obtain ⟨m, hmm⟩ : ∃ m, r.length = m := ⟨_, rfl⟩
  obtain ⟨N, hN⟩ : ∃ N, m + 1 = N := ⟨_, rfl⟩
  have hcm := hm
  unfold maxLen at hm
  have hy0 := hr0.last
  rw [hmm] at hc hy0
  rw [hmm, hN]
  obtain ⟨c0, c1, c2, c3⟩ := hy0
  have hN0 : ((N : Int) == 0) = false := by simp; omega
  have hNw : IntKind.i64.wrap ((N : Int) - 1) = (m : Int) := by rw [IntWalk.i64_in _ (by omega)]; omega
  have hm0 : (0 : Int) ≤ (m : Int) := by omega
  have hmN : (m : Int) < (N : Int) := by omega
  have hmN2 : (m : Int) ≤ (N : Int) := by omega
  have hmc : (m : Int) ≤ (cap : Int) := by omega
  have hdi : decide ((i : Int) < (k : Int)) = true := by simp; omega
  obtain ⟨l0, l1, l2, l3⟩ := Arr.c4 hL
  have HN := Lib.hid hN
  have HM := Lib.hid hmm
  clear hN hmm
  go_enter Tryd.func35, Tryd.ntmps35
  simp only [D4.val]
  go_wp2_with fail
  clear hw0
  have hX : Arr .u32 26 (w.heap.size + 1 + 1) y.toL (w0.alloc (.cells #[.int .u32 y.d0, .int .u32 y.d1, .int .u32 y.d2, .int .u32 y.d3] 26)) := by rw [← hsz]; exact heap_alloc_new w0 _
  have hL1 := hL.al (.cells #[.int .u32 y.d0, .int .u32 y.d1, .int .u32 y.d2, .int .u32 y.d3] 26)
  have hR1 := hR.al (.cells #[.int .u32 y.d0, .int .u32 y.d1, .int .u32 y.d2, .int .u32 y.d3] 26)
  have hB1 := hB.alloc hB.size (.cells #[.int .u32 y.d0, .int .u32 y.d1, .int .u32 y.d2, .int .u32 y.d3] 26)
  generalize w0.alloc (.cells #[.int .u32 y.d0, .int .u32 y.d1, .int .u32 y.d2, .int .u32 y.d3] 26) = w1 at *
  clear l0 l1 l2 l3 c0 c1 c2 c3 hL hR hB hr0 hsz
  have hr1 := (hr.on hB1).init
  clear hr
  obtain ⟨l0, l1, l2, l3⟩ := Arr.c4 hL1
  refine (half_val n k w1 hle HK.out).mono ?_
  rintro e w1' ⟨rfl, rfl⟩
  go_wp2_with fail
  refine (up_val r H z bl k i x b o m cap _ _ w1 rfl rfl hk0 (by omega) hil hx hr1 HM.out.symm (by rw [HM.out]; omega) hcm HZ.out).mono ?_
  rintro e w2 ⟨rfl, hA2⟩
  have hX2 := hX.on hA2
  have hR2 := hR1.on hA2
  have hB2 := hB1.trans (hA2.mono hB1.size)
  clear l0 l1 l2 l3 hX hL1 hR1 hB1 hA2 hr1
  obtain ⟨t0, t1, t2, t3⟩ := Arr.c4 hX2
  have hXlt := hX2.lt
  go_wp2_with fail
  have hR3 := hR2.al (.cells #[.int .u32 z.d0, .int .u32 z.d1, .int .u32 z.d2, .int .u32 z.d3] 26)
  have hB3 := hB2.alloc hB2.size (.cells #[.int .u32 z.d0, .int .u32 z.d1, .int .u32 z.d2, .int .u32 z.d3] 26)
  generalize w2.alloc (.cells #[.int .u32 z.d0, .int .u32 z.d1, .int .u32 z.d2, .int .u32 z.d3] 26) = w3 at *
  refine (rpair_val z y g w3 hzo hyo HG.out).mono ?_
  rintro e w4 ⟨rfl, hA4⟩
  have hR4 := hR3.on hA4
  have hB4 := hB3.trans (hA4.mono hB3.size)
  clear t0 t1 t2 t3 hX2 hR2 hB2 hR3 hB3 hA4
  obtain ⟨k0, k1, k2, k3⟩ := Arr.c4 (d := zeroD) hR4
  obtain ⟨f0, f1, f2, f3⟩ := hR4.f4
  have hRf := put4 (d := g) hR4 rfl
  have hBf := below_put4 hB4 (Nat.le_succ _) g
  go_wp2_with fail
  generalize (((w4.setCell ⟨w.heap.size + 1, 0, none⟩ (.int .u32 g.d0)).setCell ⟨w.heap.size + 1, 1, none⟩ (.int .u32 g.d1)).setCell ⟨w.heap.size + 1, 2, none⟩ (.int .u32 g.d2)).setCell ⟨w.heap.size + 1, 3, none⟩ (.int .u32 g.d3) = wf at *
  obtain ⟨r0, r1, r2, r3⟩ := hRf.c4
  refine bodyPost_ret (v := .tuple #[g.val, .bool bl]) (by simp [results, Tryd.results35, go_sem, D4.val, r0, r1, r2, r3]) rfl ⟨by rw [HE.out]; rfl, hBf⟩
set_option maxHeartbeats 4000000 in
set_option maxRecDepth 100000 in
theorem up_cR (r : List D4) (y : D4) (n i : Nat) (x : D4) (b o cap : Nat) (w : World) (h2 : 2 ≤ n) (hle : n ≤ 1000000) (hil : i ≤ 1000000) (hi : ¬ i < half n) (hx : x.ok) (hyo : y.ok) (hzo : (upD (n - half n) (i - half n) x r).1.ok) (hr : RdL w b o (r ++ [y])) (hc : r.length + 1 ≤ cap) (hm : cap ≤ maxLen) (H : UpC r) :
    Calls Tryd.prog 35 #[.int .i64 (n : Int), .int .i64 (i : Int), x.val, .slice (some ⟨b, o, none⟩) (r.length + 1) cap] w fun e w' => e = .returned (.tuple #[(upD n i x (r ++ [y])).1.val, .bool (upD n i x (r ++ [y])).2]) ∧ Below w.heap.size w w' := by
  have hk1 := half_lt h2
  have hk0 := half_pos n
  obtain ⟨k, hk⟩ : ∃ k, half n = k := ⟨_, rfl⟩
  obtain ⟨⟨z, bl⟩, hz⟩ : ∃ z, upD (n - half n) (i - half n) x r = z := ⟨_, rfl⟩
  obtain ⟨g, hg⟩ : ∃ g, pairS y z = g := ⟨_, rfl⟩
  have HE : Hid (upD n i x (r ++ [y]) = (g, bl)) := by show _ = _; rw [upD, up_right pairS x r y (by omega) hi]; show (pairS y (upD (n - half n) (i - half n) x r).1, (upD (n - half n) (i - half n) x r).2) = _; rw [hz, ← hg]
  rw [hz] at hzo
  rw [hk] at hk0 hk1 hz hi
  have HZ := Lib.hid hz
  have HG := Lib.hid hg
  have HK := Lib.hid hk
  clear hz hg hk
  have hn1 : ((n : Int) == 1) = false := by simp; omega
  obtain ⟨w0, hw0⟩ : ∃ w0, (w.alloc (.cells #[.int .u32 x.d0, .int .u32 x.d1, .int .u32 x.d2, .int .u32 x.d3] 26)).alloc (.cells #[.int .u32 0, .int .u32 0, .int .u32 0, .int .u32 0] 26) = w0 := ⟨_, rfl⟩
  obtain ⟨hL, hR, hB, hsz⟩ := start44 x w w0 hw0
  have hr0 := hr.on hB
  obtain ⟨m, hmm⟩ : ∃ m, r.length = m := ⟨_, rfl⟩
  obtain ⟨N, hN⟩ : ∃ N, m + 1 = N := ⟨_, rfl⟩
  have hcm := hm
  unfold maxLen at hm
  have hy0 := hr0.last
  rw [hmm] at hc hy0
  rw [hmm, hN]
  obtain ⟨c0, c1, c2, c3⟩ := hy0
  have hN0 : ((N : Int) == 0) = false := by simp; omega
  have hNw : IntKind.i64.wrap ((N : Int) - 1) = (m : Int) := by rw [IntWalk.i64_in _ (by omega)]; omega
  have hm0 : (0 : Int) ≤ (m : Int) := by omega
  have hmN : (m : Int) < (N : Int) := by omega
  have hmN2 : (m : Int) ≤ (N : Int) := by omega
  have hmc : (m : Int) ≤ (cap : Int) := by omega
  have hdi : decide ((i : Int) < (k : Int)) = false := by simp; omega
  have hw1 : IntKind.i64.wrap ((n : Int) - (k : Int)) = ((n - k : Nat) : Int) := by rw [IntWalk.i64_in _ (by omega)]; omega
  have hw2 : IntKind.i64.wrap ((i : Int) - (k : Int)) = ((i - k : Nat) : Int) := by rw [IntWalk.i64_in _ (by omega)]; omega
  obtain ⟨l0, l1, l2, l3⟩ := Arr.c4 hL
  have HN := Lib.hid hN
  have HM := Lib.hid hmm
  clear hN hmm
  go_enter Tryd.func35, Tryd.ntmps35
  simp only [D4.val]
  go_wp2_with fail
  clear hw0
  have hX : Arr .u32 26 (w.heap.size + 1 + 1) y.toL (w0.alloc (.cells #[.int .u32 y.d0, .int .u32 y.d1, .int .u32 y.d2, .int .u32 y.d3] 26)) := by rw [← hsz]; exact heap_alloc_new w0 _
  have hL1 := hL.al (.cells #[.int .u32 y.d0, .int .u32 y.d1, .int .u32 y.d2, .int .u32 y.d3] 26)
  have hR1 := hR.al (.cells #[.int .u32 y.d0, .int .u32 y.d1, .int .u32 y.d2, .int .u32 y.d3] 26)
  have hB1 := hB.alloc hB.size (.cells #[.int .u32 y.d0, .int .u32 y.d1, .int .u32 y.d2, .int .u32 y.d3] 26)
  generalize w0.alloc (.cells #[.int .u32 y.d0, .int .u32 y.d1, .int .u32 y.d2, .int .u32 y.d3] 26) = w1 at *
  clear l0 l1 l2 l3 c0 c1 c2 c3 hL hR hB hr0 hsz
  have hr1 := (hr.on hB1).init
  clear hr
  obtain ⟨l0, l1, l2, l3⟩ := Arr.c4 hL1
  refine (half_val n k w1 hle HK.out).mono ?_
  rintro e w1' ⟨rfl, rfl⟩
  go_wp2_with fail
  refine (up_val r H z bl (n - k) (i - k) x b o m cap _ _ w1 rfl rfl (by omega) (by omega) (by omega) hx hr1 HM.out.symm (by rw [HM.out]; omega) hcm HZ.out).mono ?_
  rintro e w2 ⟨rfl, hA2⟩
  have hX2 := hX.on hA2
  have hR2 := hR1.on hA2
  have hB2 := hB1.trans (hA2.mono hB1.size)
  clear l0 l1 l2 l3 hX hL1 hR1 hB1 hA2 hr1
  obtain ⟨t0, t1, t2, t3⟩ := Arr.c4 hX2
  have hXlt := hX2.lt
  go_wp2_with fail
  have hR3 := hR2.al (.cells #[.int .u32 z.d0, .int .u32 z.d1, .int .u32 z.d2, .int .u32 z.d3] 26)
  have hB3 := hB2.alloc hB2.size (.cells #[.int .u32 z.d0, .int .u32 z.d1, .int .u32 z.d2, .int .u32 z.d3] 26)
  generalize w2.alloc (.cells #[.int .u32 z.d0, .int .u32 z.d1, .int .u32 z.d2, .int .u32 z.d3] 26) = w3 at *
  refine (rpair_val y z g w3 hyo hzo HG.out).mono ?_
  rintro e w4 ⟨rfl, hA4⟩
  have hR4 := hR3.on hA4
  have hB4 := hB3.trans (hA4.mono hB3.size)
  clear t0 t1 t2 t3 hX2 hR2 hB2 hR3 hB3 hA4
  obtain ⟨k0, k1, k2, k3⟩ := Arr.c4 (d := zeroD) hR4
  obtain ⟨f0, f1, f2, f3⟩ := hR4.f4
  have hRf := put4 (d := g) hR4 rfl
  have hBf := below_put4 hB4 (Nat.le_succ _) g
  go_wp2_with fail
  generalize (((w4.setCell ⟨w.heap.size + 1, 0, none⟩ (.int .u32 g.d0)).setCell ⟨w.heap.size + 1, 1, none⟩ (.int .u32 g.d1)).setCell ⟨w.heap.size + 1, 2, none⟩ (.int .u32 g.d2)).setCell ⟨w.heap.size + 1, 3, none⟩ (.int .u32 g.d3) = wf at *
  obtain ⟨r0, r1, r2, r3⟩ := hRf.c4
  refine bodyPost_ret (v := .tuple #[g.val, .bool bl]) (by simp [results, Tryd.results35, go_sem, D4.val, r0, r1, r2, r3]) rfl ⟨by rw [HE.out]; rfl, hBf⟩
theorem upR_ok : ∀ (p : List D4) (n i : Nat) (x : D4), x.ok → allD4 p → (upR pairS n i x p).1.ok
  | [], _, _, _, hx, _ => hx
  | y :: r, n, i, x, hx, hp => by
    have hr : allD4 r := fun d hd => hp d (by simp [hd])
    have hy : y.ok := hp y (by simp)
    unfold upR
    split
    · exact hx
    · split
      · exact pairS_ok (upR_ok r _ _ x hx hr) hy
      · exact pairS_ok hy (upR_ok r _ _ x hx hr)
theorem upD_ok (n i : Nat) (x : D4) (p : List D4) (hx : x.ok) (hp : allD4 p) : (upD n i x p).1.ok := upR_ok p.reverse n i x hx fun d hd => hp d (by simpa using hd)
theorem up_all : ∀ (j : Nat) (p : List D4), p.length = j → allD4 p → UpC p := by
  intro j
  induction j with
  | zero =>
    intro p hj _ n i x a cap w h1 hle hi hx _ _ _
    have : p = [] := List.length_eq_zero_iff.mp hj
    subst this
    by_cases q : n = 1
    · subst q; exact up_cOne [] i x a cap w
    · exact up_cNone n i x a cap w (by omega) hle
  | succ j ih =>
    intro p hj hp n i x a cap w h1 hle hi hx hr hc hm
    by_cases q : n = 1
    · subst q; exact up_cOne p i x a cap w
    · have hne : p ≠ [] := by intro e; subst e; simp at hj
      obtain ⟨r, y, rfl⟩ : ∃ r y, p = r ++ [y] := ⟨p.dropLast, p.getLast hne, (List.dropLast_concat_getLast hne).symm⟩
      obtain ⟨b, o, rfl, hrl⟩ := hr hne
      have hl : r.length = j := by simpa using hj
      have hlen : (r ++ [y]).length = r.length + 1 := by simp
      rw [hlen] at hc ⊢
      have hk1 := half_lt (show 2 ≤ n by omega)
      by_cases k : i < half n
      · exact up_cL r y n i x b o cap w (by omega) hle hi k hx hp.lastOk (upD_ok _ _ _ _ hx hp.left) hrl hc hm (ih r hl hp.left)
      · exact up_cR r y n i x b o cap w (by omega) hle hi k hx hp.lastOk (upD_ok _ _ _ _ hx hp.left) hrl hc hm (ih r hl hp.left)
theorem up_any (p : List D4) (hp : allD4 p) : UpC p := up_all p.length p rfl hp
end Go.Proofs.YtnimbclnhgbdcaaDoor
