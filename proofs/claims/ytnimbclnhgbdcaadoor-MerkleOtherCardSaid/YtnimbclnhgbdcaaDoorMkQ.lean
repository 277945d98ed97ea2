/-
  The code's Root of any list: a list parted in two, the roots of both.
-/
import Derived.Test.YtnimbclnhgbdcaaDoorMkN
namespace Go.Proofs.YtnimbclnhgbdcaaDoor
open Go.RowKit Go.Lib

/-- A list parted in two. -/
theorem split_any (n k cap b o : Nat) (w : World) (h2 : 2 ≤ n) (hn : n ≤ 1000000) (hk : half n = k) (hc : n ≤ cap) (_hm : cap ≤ maxLen) :
    Calls Tryd.prog 47 #[.slice (some ⟨b, o, none⟩) n cap] w fun e w' => e = .returned (.tuple #[.slice (some ⟨b, o, none⟩) k cap, .slice (some ⟨b, o + k * 4, none⟩) ((n - k : Nat)) ((cap - k : Nat))]) ∧ Below w.heap.size w w' := by
  have hk1 := half_lt h2
  have hk0 := half_pos n
  rw [hk] at hk1 hk0
  have HK := Lib.hid hk
  clear hk
  unfold maxLen at _hm
  have hki : (k : Int) ≤ (n : Int) := by omega
  have hkc : (k : Int) ≤ (cap : Int) := by omega
  have hk00 : (0 : Int) ≤ (k : Int) := by omega
  have hnc : (n : Int) ≤ (cap : Int) := by omega
  have hck : cap ≠ k := by omega
  go_enter Tryd.func47, Tryd.ntmps47
  go_wp2_with fail
  refine (chalf_any n w h2 hn).mono ?_
  rintro e w1 ⟨rfl, rfl⟩
  rw [HK.out]
  go_wp2_with fail
  go_region
  all_goals
    go_wp2
    go_ret2
    exact ⟨rfl, (Below.refl _ _).drew⟩
/-- What the code's Root answers, of a list that lies in memory. -/
def CRootC (l : List D4) : Prop := ∀ (p : Option Addr) (cap : Nat) (w : World), (l ≠ [] → ∃ b o, p = some ⟨b, o, none⟩ ∧ RdL w b o l) → l.length ≤ cap → cap ≤ maxLen → TurnsOk w →
  Calls Tryd.prog 11 #[.slice p l.length cap] w fun e w' => e = .returned (rootD l).val ∧ Below w.heap.size w w'
theorem croot_val (l : List D4) (H : CRootC l) (y : D4) (b o n cap : Nat) (w : World) (hr : RdL w b o l) (hn : n = l.length) (hc : l.length ≤ cap) (hm : cap ≤ maxLen) (hT : TurnsOk w) (hy : rootD l = y) :
    Calls Tryd.prog 11 #[.slice (some ⟨b, o, none⟩) n cap] w fun e w' => e = .returned (.agg #[.int .u32 y.d0, .int .u32 y.d1, .int .u32 y.d2, .int .u32 y.d3]) ∧ Below w.heap.size w w' := by
  subst hy; subst hn
  exact H (some ⟨b, o, none⟩) cap w (fun _ => ⟨b, o, rfl, hr⟩) hc hm hT
theorem cpair_val (a b y : D4) (w : World) (ha : a.ok) (hb : b.ok) (hT : TurnsOk w) (hy : pairS a b = y) : Calls Tryd.prog 29 #[.agg #[.int .u32 a.d0, .int .u32 a.d1, .int .u32 a.d2, .int .u32 a.d3], .agg #[.int .u32 b.d0, .int .u32 b.d1, .int .u32 b.d2, .int .u32 b.d3]] w fun e w' => e = .returned (.agg #[.int .u32 y.d0, .int .u32 y.d1, .int .u32 y.d2, .int .u32 y.d3]) ∧ Below w.heap.size w w' := by
  subst hy; exact cpair_any a b w ha hb hT
theorem cof_none (y : D4) (w : World) (hT : TurnsOk w) (hy : noneD = y) : Calls Tryd.prog 27 #[.string ⟨#[]⟩] w fun e w' => e = .returned (.agg #[.int .u32 y.d0, .int .u32 y.d1, .int .u32 y.d2, .int .u32 y.d3]) ∧ Below w.heap.size w w' := by
  subst hy; exact cof_any ⟨#[]⟩ w (by decide) hT
def both8 (a b : D4) : S8 := ⟨a.d0, a.d1, a.d2, a.d3, b.d0, b.d1, b.d2, b.d3⟩
def nilS : S8 := ⟨0, 0, 0, 0, 0, 0, 0, 0⟩
theorem start8t (w w0 : World) (h : w.alloc (.cells #[.int .u32 0, .int .u32 0, .int .u32 0, .int .u32 0, .int .u32 0, .int .u32 0, .int .u32 0, .int .u32 0] 41) = w0) :
    Arr .u32 41 w.heap.size nilS.toL w0 ∧ Below w.heap.size w w0 := by
  subst h
  exact ⟨heap_alloc_new w _, (Below.refl _ _).alloc (Nat.le_refl _) _⟩
theorem putB8 {t : TypeId} {b : Nat} {N : List Int} {w : World} {x z : D4} (h : Arr .u32 t b N w) (hn : N.length = 8) : Arr .u32 t b (both8 x z).toL ((((((((w.setCell ⟨b, 0, none⟩ (.int .u32 x.d0)).setCell ⟨b, 1, none⟩ (.int .u32 x.d1)).setCell ⟨b, 2, none⟩ (.int .u32 x.d2)).setCell ⟨b, 3, none⟩ (.int .u32 x.d3)).setCell ⟨b, 4, none⟩ (.int .u32 z.d0)).setCell ⟨b, 5, none⟩ (.int .u32 z.d1)).setCell ⟨b, 6, none⟩ (.int .u32 z.d2)).setCell ⟨b, 7, none⟩ (.int .u32 z.d3)) := put8 (y := both8 x z) h hn
theorem below_putB8 {B b : Nat} {w0 w : World} (h : Below B w0 w) (hb : B ≤ b) (x z : D4) : Below B w0 ((((((((w.setCell ⟨b, 0, none⟩ (.int .u32 x.d0)).setCell ⟨b, 1, none⟩ (.int .u32 x.d1)).setCell ⟨b, 2, none⟩ (.int .u32 x.d2)).setCell ⟨b, 3, none⟩ (.int .u32 x.d3)).setCell ⟨b, 4, none⟩ (.int .u32 z.d0)).setCell ⟨b, 5, none⟩ (.int .u32 z.d1)).setCell ⟨b, 6, none⟩ (.int .u32 z.d2)).setCell ⟨b, 7, none⟩ (.int .u32 z.d3)) :=
  (((((((h.setCell (p := ⟨b, 0, none⟩) hb _).setCell (p := ⟨b, 1, none⟩) hb _).setCell (p := ⟨b, 2, none⟩) hb _).setCell (p := ⟨b, 3, none⟩) hb _).setCell (p := ⟨b, 4, none⟩) hb _).setCell (p := ⟨b, 5, none⟩) hb _).setCell (p := ⟨b, 6, none⟩) hb _).setCell (p := ⟨b, 7, none⟩) hb _
theorem farB8 {κ : IntKind} {t : TypeId} {c b : Nat} {L : List Int} {w : World} (h : Arr κ t c L w) (hne : c ≠ b) (x z : D4) : Arr κ t c L ((((((((w.setCell ⟨b, 0, none⟩ (.int .u32 x.d0)).setCell ⟨b, 1, none⟩ (.int .u32 x.d1)).setCell ⟨b, 2, none⟩ (.int .u32 x.d2)).setCell ⟨b, 3, none⟩ (.int .u32 x.d3)).setCell ⟨b, 4, none⟩ (.int .u32 z.d0)).setCell ⟨b, 5, none⟩ (.int .u32 z.d1)).setCell ⟨b, 6, none⟩ (.int .u32 z.d2)).setCell ⟨b, 7, none⟩ (.int .u32 z.d3)) :=
  (((((((h.far (a := ⟨b, 0, none⟩) hne _).far (a := ⟨b, 1, none⟩) hne _).far (a := ⟨b, 2, none⟩) hne _).far (a := ⟨b, 3, none⟩) hne _).far (a := ⟨b, 4, none⟩) hne _).far (a := ⟨b, 5, none⟩) hne _).far (a := ⟨b, 6, none⟩) hne _).far (a := ⟨b, 7, none⟩) hne _
set_option maxHeartbeats 2000000 in
set_option maxRecDepth 100000 in
theorem halves_any (l : List D4) (h2 : 2 ≤ l.length) (hle : l.length ≤ 1000000) (hT1 : CRootC (l.take (half l.length))) (hT2 : CRootC (l.drop (half l.length))) (x z : D4) (hx : rootD (l.take (half l.length)) = x) (hz : rootD (l.drop (half l.length)) = z) (n b o cap : Nat) (w : World) (hn : l.length = n) (hr : RdL w b o l) (hc : n ≤ cap) (hm : cap ≤ maxLen) (hT : TurnsOk w) :
    Calls Tryd.prog 28 #[.slice (some ⟨b, o, none⟩) n cap] w fun e w' => e = .returned (.agg #[.int .u32 x.d0, .int .u32 x.d1, .int .u32 x.d2, .int .u32 x.d3, .int .u32 z.d0, .int .u32 z.d1, .int .u32 z.d2, .int .u32 z.d3]) ∧ Below w.heap.size w w' := by
  have hk1 := half_lt h2
  have hk0 := half_pos l.length
  obtain ⟨k, hk⟩ : ∃ k, half l.length = k := ⟨_, rfl⟩
  rw [hk] at hk0 hk1 hT1 hT2 hx hz
  have hlt : (l.take k).length = k := by rw [List.length_take]; omega
  have hld : (l.drop k).length = n - k := by rw [List.length_drop, hn]
  rw [hn] at hk hk1 h2 hle
  have HX := Lib.hid hx
  have HZ := Lib.hid hz
  have HK := Lib.hid hk
  have HLT := Lib.hid hlt
  have HLD := Lib.hid hld
  clear hx hz hk hlt hld hn
  obtain ⟨w0, hw0⟩ : ∃ w0, w.alloc (.cells #[.int .u32 0, .int .u32 0, .int .u32 0, .int .u32 0, .int .u32 0, .int .u32 0, .int .u32 0, .int .u32 0] 41) = w0 := ⟨_, rfl⟩
  obtain ⟨hR, hB⟩ := start8t w w0 hw0
  have hr0 := hr.on hB
  have hT0 := hT.below hB
  clear hr hT
  have hcm : cap ≤ maxLen := hm
  have hcm2 : cap - k ≤ maxLen := by omega
  have hc1 : (l.take k).length ≤ cap := by rw [HLT.out]; omega
  have hc2 : (l.drop k).length ≤ cap - k := by rw [HLD.out]; omega
  go_enter Tryd.func28, Tryd.ntmps28
  go_wp2_with fail
  clear hw0
  refine (split_any n k cap b o w0 h2 hle HK.out hc hcm).mono ?_
  rintro e w1 ⟨rfl, hA1⟩
  have hR1 := hR.on hA1
  have hB1 := hB.trans (hA1.mono hB.size)
  have hr1 := hr0.on hA1
  have hT1' := hT0.below hA1
  clear hR hB hr0 hT0 hA1
  go_wp2_with fail
  refine (croot_val _ hT1 x b o k cap w1 (hr1.take k) HLT.out.symm hc1 hcm hT1' HX.out).mono ?_
  rintro e w2 ⟨rfl, hA2⟩
  have hR2 := hR1.on hA2
  have hB2 := hB1.trans (hA2.mono hB1.size)
  have hr2 := hr1.on hA2
  have hT2' := hT1'.below hA2
  clear hR1 hB1 hr1 hT1' hA2
  go_wp2_with fail
  refine (croot_val _ hT2 z b (o + k * 4) (n - k) (cap - k) w2 (hr2.drop k) HLD.out.symm hc2 hcm2 hT2' HZ.out).mono ?_
  rintro e w3 ⟨rfl, hA3⟩
  have hR3 := hR2.on hA3
  have hB3 := hB2.trans (hA3.mono hB2.size)
  clear hR2 hB2 hr2 hT2' hA3
  obtain ⟨k0, k1, k2, k3, k4, k5, k6, k7⟩ := Arr.c8 (y := nilS) hR3
  obtain ⟨f0, f1, f2, f3, f4, f5, f6, f7⟩ := hR3.f8
  go_wp2_with fail
  have hRf : Arr .u32 41 w.heap.size (both8 x z).toL ((((((((w3.setCell ⟨w.heap.size, 0, none⟩ (.int .u32 x.d0)).setCell ⟨w.heap.size, 1, none⟩ (.int .u32 x.d1)).setCell ⟨w.heap.size, 2, none⟩ (.int .u32 x.d2)).setCell ⟨w.heap.size, 3, none⟩ (.int .u32 x.d3)).setCell ⟨w.heap.size, 4, none⟩ (.int .u32 z.d0)).setCell ⟨w.heap.size, 5, none⟩ (.int .u32 z.d1)).setCell ⟨w.heap.size, 6, none⟩ (.int .u32 z.d2)).setCell ⟨w.heap.size, 7, none⟩ (.int .u32 z.d3)) := putB8 hR3 rfl
  have hBf : Below w.heap.size w ((((((((w3.setCell ⟨w.heap.size, 0, none⟩ (.int .u32 x.d0)).setCell ⟨w.heap.size, 1, none⟩ (.int .u32 x.d1)).setCell ⟨w.heap.size, 2, none⟩ (.int .u32 x.d2)).setCell ⟨w.heap.size, 3, none⟩ (.int .u32 x.d3)).setCell ⟨w.heap.size, 4, none⟩ (.int .u32 z.d0)).setCell ⟨w.heap.size, 5, none⟩ (.int .u32 z.d1)).setCell ⟨w.heap.size, 6, none⟩ (.int .u32 z.d2)).setCell ⟨w.heap.size, 7, none⟩ (.int .u32 z.d3)) := below_putB8 hB3 (Nat.le_refl _) x z
  clear k0 k1 k2 k3 k4 k5 k6 k7 f0 f1 f2 f3 f4 f5 f6 f7
  generalize ((((((((w3.setCell ⟨w.heap.size, 0, none⟩ (.int .u32 x.d0)).setCell ⟨w.heap.size, 1, none⟩ (.int .u32 x.d1)).setCell ⟨w.heap.size, 2, none⟩ (.int .u32 x.d2)).setCell ⟨w.heap.size, 3, none⟩ (.int .u32 x.d3)).setCell ⟨w.heap.size, 4, none⟩ (.int .u32 z.d0)).setCell ⟨w.heap.size, 5, none⟩ (.int .u32 z.d1)).setCell ⟨w.heap.size, 6, none⟩ (.int .u32 z.d2)).setCell ⟨w.heap.size, 7, none⟩ (.int .u32 z.d3)) = wf at *
  obtain ⟨k0, k1, k2, k3, k4, k5, k6, k7⟩ := Arr.c8 (y := both8 x z) hRf
  refine bodyPost_ret (v := .agg #[.int .u32 x.d0, .int .u32 x.d1, .int .u32 x.d2, .int .u32 x.d3, .int .u32 z.d0, .int .u32 z.d1, .int .u32 z.d2, .int .u32 z.d3]) (by simp [results, Tryd.results28, go_sem, k0, k1, k2, k3, k4, k5, k6, k7, both8]) rfl ⟨rfl, hBf⟩
theorem croot_c0 : CRootC [] := by
  intro p cap w _ _ hm hT
  obtain ⟨y, hy⟩ : ∃ y, noneD = y := ⟨_, rfl⟩
  have HY := Lib.hid hy
  have HE : Hid (rootD [] = y) := by show _ = _; rw [rootD, root_nil, hy]
  clear hy
  unfold maxLen at hm
  obtain ⟨w0, hw0⟩ : ∃ w0, w.alloc (.cells #[.int .u32 0, .int .u32 0, .int .u32 0, .int .u32 0] 26) = w0 := ⟨_, rfl⟩
  obtain ⟨hR, hB⟩ := start4 w w0 hw0
  have hT0 := hT.below hB
  go_enter Tryd.func11, Tryd.ntmps11
  go_wp2_with fail
  clear hw0
  refine (cof_none y w0 hT0 HY.out).mono ?_
  rintro e w1 ⟨rfl, hC⟩
  have hR1 := hR.on hC
  have hB1 := hB.trans (hC.mono hB.size)
  clear hR hB hC hT0 hT
  obtain ⟨k0, k1, k2, k3⟩ := Arr.c4 (d := zeroD) hR1
  obtain ⟨f0, f1, f2, f3⟩ := hR1.f4
  have hRf := put4 (d := y) hR1 rfl
  have hBf := below_put4 hB1 (Nat.le_refl _) y
  clear hR1 hB1
  go_wp2_with fail
  generalize ((((w1.setCell ⟨w.heap.size, 0, none⟩ (.int .u32 y.d0)).setCell ⟨w.heap.size, 1, none⟩ (.int .u32 y.d1)).setCell ⟨w.heap.size, 2, none⟩ (.int .u32 y.d2)).setCell ⟨w.heap.size, 3, none⟩ (.int .u32 y.d3)) = wf at *
  obtain ⟨r0, r1, r2, r3⟩ := hRf.c4
  refine bodyPost_ret (v := y.val) (by simp [results, Tryd.results11, go_sem, D4.val, r0, r1, r2, r3]) rfl ⟨by rw [HE.out], hBf⟩
set_option maxHeartbeats 2000000 in
set_option maxRecDepth 100000 in
theorem croot_c1 (a : D4) : CRootC [a] := by
  intro p cap w hp _ hm hT
  obtain ⟨b, o, rfl, hr⟩ := hp (by simp)
  have HE : Hid (rootD [a] = a) := by show _ = _; rw [rootD, root_one]
  unfold maxLen at hm
  obtain ⟨w0, hw0⟩ : ∃ w0, w.alloc (.cells #[.int .u32 0, .int .u32 0, .int .u32 0, .int .u32 0] 26) = w0 := ⟨_, rfl⟩
  obtain ⟨hR, hB⟩ := start4 w w0 hw0
  have hr0 := hr.on hB
  obtain ⟨c0, c1, c2, c3⟩ := hr0.2 0 (by simp)
  simp only [Nat.zero_mul, Nat.add_zero, List.getD_cons_zero] at c0 c1 c2 c3
  obtain ⟨k0, k1, k2, k3⟩ := Arr.c4 (d := zeroD) hR
  obtain ⟨f0, f1, f2, f3⟩ := hR.f4
  have hRf := put4 (d := a) hR rfl
  have hBf := below_put4 hB (Nat.le_refl _) a
  clear hR hB hr hr0
  go_enter Tryd.func11, Tryd.ntmps11
  go_wp2_with fail
  clear hw0
  generalize ((((w0.setCell ⟨w.heap.size, 0, none⟩ (.int .u32 a.d0)).setCell ⟨w.heap.size, 1, none⟩ (.int .u32 a.d1)).setCell ⟨w.heap.size, 2, none⟩ (.int .u32 a.d2)).setCell ⟨w.heap.size, 3, none⟩ (.int .u32 a.d3)) = wf at *
  obtain ⟨r0, r1, r2, r3⟩ := hRf.c4
  refine bodyPost_ret (v := a.val) (by simp [results, Tryd.results11, go_sem, D4.val, r0, r1, r2, r3]) rfl ⟨by rw [HE.out], hBf⟩
theorem al8 (x z : D4) (w : World) : Arr .u32 41 w.heap.size (both8 x z).toL (w.alloc (.cells #[.int .u32 x.d0, .int .u32 x.d1, .int .u32 x.d2, .int .u32 x.d3, .int .u32 z.d0, .int .u32 z.d1, .int .u32 z.d2, .int .u32 z.d3] 41)) := heap_alloc_new w _
set_option maxHeartbeats 2000000 in
set_option maxRecDepth 100000 in
theorem croot_cN (l : List D4) (h2 : 2 ≤ l.length) (hle : l.length ≤ 1000000) (hok : allD4 l) (hT1 : CRootC (l.take (half l.length))) (hT2 : CRootC (l.drop (half l.length))) : CRootC l := by
  intro p cap w hp hc hm hT
  obtain ⟨b, o, rfl, hr⟩ := hp (by intro e; subst e; simp at h2)
  obtain ⟨n, hn⟩ : ∃ n, l.length = n := ⟨_, rfl⟩
  obtain ⟨x, hx⟩ : ∃ x, rootD (l.take (half l.length)) = x := ⟨_, rfl⟩
  obtain ⟨z, hz⟩ : ∃ z, rootD (l.drop (half l.length)) = z := ⟨_, rfl⟩
  obtain ⟨y, hy⟩ : ∃ y, pairS x z = y := ⟨_, rfl⟩
  have hxo : x.ok := by rw [← hx]; exact rootD_ok _ _ rfl (hok.take _)
  have hzo : z.ok := by rw [← hz]; exact rootD_ok _ _ rfl (hok.drop _)
  have HE : Hid (rootD l = y) := by show _ = _; rw [rootD, root_more pairS noneD l h2]; show pairS (rootD _) (rootD _) = y; rw [hx, hz, hy]
  obtain ⟨w0, hw0⟩ : ∃ w0, w.alloc (.cells #[.int .u32 0, .int .u32 0, .int .u32 0, .int .u32 0] 26) = w0 := ⟨_, rfl⟩
  obtain ⟨hR, hB⟩ := start4 w w0 hw0
  have hr0 := hr.on hB
  have hT0 := hT.below hB
  have hH := halves_any l h2 hle hT1 hT2 x z hx hz n b o cap w0 hn hr0 (by omega) hm hT0
  have HY := Lib.hid hy
  clear hy hx hz hr hT hr0
  have hn0 : ((n : Int) == 0) = false := by simp; omega
  have hn1 : ((n : Int) == 1) = false := by simp; omega
  rw [hn] at hc ⊢
  have hcm := hm
  unfold maxLen at hm
  go_enter Tryd.func11, Tryd.ntmps11
  go_wp2_with fail
  clear hw0
  refine hH.mono ?_
  rintro e w1 ⟨rfl, hA1⟩
  have hR1 := hR.on hA1
  have hB1 := hB.trans (hA1.mono hB.size)
  have hT1' := hT0.below hA1
  clear hR hB hT0 hA1 hH
  have hX1 := al8 x z w1
  have hR2 := hR1.al (.cells #[.int .u32 x.d0, .int .u32 x.d1, .int .u32 x.d2, .int .u32 x.d3, .int .u32 z.d0, .int .u32 z.d1, .int .u32 z.d2, .int .u32 z.d3] 41)
  have hB2 := hB1.alloc hB1.size (.cells #[.int .u32 x.d0, .int .u32 x.d1, .int .u32 x.d2, .int .u32 x.d3, .int .u32 z.d0, .int .u32 z.d1, .int .u32 z.d2, .int .u32 z.d3] 41)
  have hT2' := hT1'.below ((Below.refl w1.heap.size w1).alloc (Nat.le_refl _) (.cells #[.int .u32 x.d0, .int .u32 x.d1, .int .u32 x.d2, .int .u32 x.d3, .int .u32 z.d0, .int .u32 z.d1, .int .u32 z.d2, .int .u32 z.d3] 41))
  obtain ⟨k0, k1, k2, k3, k4, k5, k6, k7⟩ := Arr.c8 (y := both8 x z) hX1
  simp only [both8] at k0 k1 k2 k3 k4 k5 k6 k7
  go_wp2_with fail
  generalize w1.alloc (.cells #[.int .u32 x.d0, .int .u32 x.d1, .int .u32 x.d2, .int .u32 x.d3, .int .u32 z.d0, .int .u32 z.d1, .int .u32 z.d2, .int .u32 z.d3] 41) = w2 at *
  refine (cpair_val x z y w2 hxo hzo hT2' HY.out).mono ?_
  rintro e w3 ⟨rfl, hA3⟩
  have hR3 := hR2.on hA3
  have hB3 := hB2.trans (hA3.mono hB2.size)
  clear k0 k1 k2 k3 k4 k5 k6 k7 hX1 hR2 hB2 hT2' hA3 hT1' hR1 hB1
  obtain ⟨k0, k1, k2, k3⟩ := Arr.c4 (d := zeroD) hR3
  obtain ⟨f0, f1, f2, f3⟩ := hR3.f4
  have hRf := put4 (d := y) hR3 rfl
  have hBf := below_put4 hB3 (Nat.le_refl _) y
  go_wp2_with fail
  generalize ((((w3.setCell ⟨w.heap.size, 0, none⟩ (.int .u32 y.d0)).setCell ⟨w.heap.size, 1, none⟩ (.int .u32 y.d1)).setCell ⟨w.heap.size, 2, none⟩ (.int .u32 y.d2)).setCell ⟨w.heap.size, 3, none⟩ (.int .u32 y.d3)) = wf at *
  obtain ⟨r0, r1, r2, r3⟩ := hRf.c4
  refine bodyPost_ret (v := y.val) (by simp [results, Tryd.results11, go_sem, D4.val, r0, r1, r2, r3]) rfl ⟨by rw [HE.out], hBf⟩
theorem croot_all : ∀ (n : Nat) (l : List D4), l.length = n → n ≤ 1000000 → allD4 l → CRootC l := by
  intro n
  induction n using Nat.strongRecOn with
  | _ n ih =>
    intro l hn hle hok
    match l, hn, hok with
    | [], _, _ => exact croot_c0
    | [a], _, _ => exact croot_c1 a
    | a :: b :: r, hn, hok =>
      have h2 : 2 ≤ (a :: b :: r).length := by simp
      have hl := half_lt h2
      have hp := half_pos (a :: b :: r).length
      exact croot_cN (a :: b :: r) h2 (by omega) hok
        (ih (half (a :: b :: r).length) (by omega) ((a :: b :: r).take (half (a :: b :: r).length)) (by rw [List.length_take]; omega) (by omega) (hok.take _))
        (ih ((a :: b :: r).length - half (a :: b :: r).length) (by omega) ((a :: b :: r).drop (half (a :: b :: r).length)) (by rw [List.length_drop]) (by omega) (hok.drop _))
theorem croot_any (l : List D4) (hle : l.length ≤ 1000000) (hok : allD4 l) : CRootC l := croot_all l.length l rfl hle hok
end Go.Proofs.YtnimbclnhgbdcaaDoor
