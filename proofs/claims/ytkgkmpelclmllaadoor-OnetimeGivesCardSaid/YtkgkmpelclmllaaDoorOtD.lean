/-
  The code's chain and public.
-/
import Derived.Test.YtkgkmpelclmllaaDoorOtC
namespace Go.Proofs.YtkgkmpelclmllaaDoor
open Go.RowKit

theorem wrap_idx (i : Nat) (h : i ≤ 1000) : IntKind.u32.wrap (i : Int) = (i : Int) := by rw [IntKind.wrap_u32]; omega
set_option maxHeartbeats 2000000 in
set_option maxRecDepth 100000 in
theorem cchain_any (seed z : D4) (i : Nat) (w : World) (hs : seed.ok) (hi : i ≤ 1000) (hT : TurnsOk w) (hz : beginD seed i = z) :
    Calls Tryd.prog 28 #[.agg #[.int .u32 seed.d0, .int .u32 seed.d1, .int .u32 seed.d2, .int .u32 seed.d3], .int .i64 (i : Int)] w fun e w' => ∃ b, e = .returned (walker b) ∧ w.heap.size ≤ b ∧ Arr .u32 24 b z.toL w' ∧ Below w.heap.size w w' := by
  obtain ⟨w0, hw0⟩ : ∃ w0, w.alloc (.cells #[.int .u32 seed.d0, .int .u32 seed.d1, .int .u32 seed.d2, .int .u32 seed.d3] 24) = w0 := ⟨_, rfl⟩
  have hA0 : Arr .u32 24 w.heap.size seed.toL w0 := by rw [← hw0]; exact heap_alloc_new w _
  have hB0 : Below w.heap.size w w0 := by rw [← hw0]; exact (Below.refl _ _).alloc (Nat.le_refl _) _
  have hT0 := hT.below hB0
  have hwr := wrap_idx i hi
  have HZ : Hid (pairS seed (idxD i) = z) := hz
  obtain ⟨l0, l1, l2, l3⟩ := Arr.c4 hA0
  clear hT hz
  go_enter Tryd.func28, Tryd.ntmps28
  go_wp2_with fail
  clear hw0
  refine (cpair_val seed (idxD i) z w0 hs (idxD_ok (by omega)) hT0 HZ.out).mono ?_
  rintro e w1 ⟨rfl, hD⟩
  have hB1 := hB0.trans (hD.mono hB0.size)
  go_wp2_with fail
  refine (calong_any z w1).mono ?_
  rintro e w2 ⟨rfl, hA2, hE⟩
  have hB2 := hB1.trans (hE.mono hB1.size)
  go_wp2_with fail
  go_ret
  exact ⟨_, rfl, hB1.size, hA2, hB2⟩

theorem RdL.thr {w w' : World} {b o B : Nat} {l : List D4} (h : RdL w b o l) (hB : Below B w w') (hb : b < B) (hs : B ≤ w'.heap.size) : RdL w' b o l :=
  ⟨by omega, fun i hi => by
    obtain ⟨h0, h1, h2, h3⟩ := h.2 i hi
    exact ⟨by rw [hB.cell (p := ⟨b, _, none⟩) hb]; exact h0, by rw [hB.cell (p := ⟨b, _, none⟩) hb]; exact h1, by rw [hB.cell (p := ⟨b, _, none⟩) hb]; exact h2, by rw [hB.cell (p := ⟨b, _, none⟩) hb]; exact h3⟩⟩
theorem fold_next (l : List D4) (a : D4) (k : Nat) (h : k < l.length) : (l.take (k + 1)).foldl pairS a = pairS ((l.take k).foldl pairS a) (l.getD k zeroD) := by
  rw [List.take_add_one, List.foldl_append, List.getD_eq_getElem?_getD, List.getElem?_eq_getElem h]
  rfl
/-- Room for the result, and the first value in a block. -/
theorem start45 (a : D4) (w w0 : World) (h : (w.alloc (.cells #[.int .u32 0, .int .u32 0, .int .u32 0, .int .u32 0] 24)).alloc (.cells #[.int .u32 a.d0, .int .u32 a.d1, .int .u32 a.d2, .int .u32 a.d3] 24) = w0) :
    Arr .u32 24 w.heap.size [0, 0, 0, 0] w0 ∧ Arr .u32 24 (w.heap.size + 1) a.toL w0 ∧ Below w.heap.size w w0 := by
  subst h
  obtain ⟨w1, h1⟩ : ∃ w1, w.alloc (.cells #[.int .u32 0, .int .u32 0, .int .u32 0, .int .u32 0] 24) = w1 := ⟨_, rfl⟩
  have hA1 : Arr .u32 24 w.heap.size [0, 0, 0, 0] w1 := by rw [← h1]; exact heap_alloc_new w _
  have a1 : w1.heap.size = w.heap.size + 1 := by rw [← h1]; simp
  have B1 : Below w.heap.size w w1 := by rw [← h1]; exact (Below.refl _ _).alloc (Nat.le_refl _) _
  rw [h1]
  refine ⟨hA1.al _, ?_, B1.alloc (by omega) _⟩
  rw [← a1]
  exact heap_alloc_new w1 _
set_option maxHeartbeats 2000000 in
set_option maxRecDepth 100000 in
theorem cpublic_any (l : List D4) (v : D4) (b o n cap : Nat) (w : World) (hl : allD4 l) (hn : l.length = n) (hn1 : n ≤ 1000) (hr : RdL w b o l) (hc : n ≤ cap) (hm : cap ≤ maxLen) (hT : TurnsOk w) (hv : endsD l = v) :
    Calls Tryd.prog 29 #[.slice (some ⟨b, o, none⟩) n cap] w fun e w' => e = .returned v.val ∧ Below w.heap.size w w' := by
  unfold maxLen at hm
  obtain ⟨w0, hw0⟩ : ∃ w0, (w.alloc (.cells #[.int .u32 0, .int .u32 0, .int .u32 0, .int .u32 0] 24)).alloc (.cells #[.int .u32 0, .int .u32 0, .int .u32 0, .int .u32 0] 24) = w0 := ⟨_, rfl⟩
  obtain ⟨hRq, hKq, hBq⟩ := start45 zeroD w w0 hw0
  have hrq := hr.on hBq
  have hTq := hT.below hBq
  have hgT : 0 < w.heap.size := tab_low hT gTrn
  obtain ⟨k0, k1, k2, k3⟩ := Arr.c4 (d := zeroD) hKq
  obtain ⟨f0, f1, f2, f3⟩ := hKq.f4
  have hK0 := put4 (d := k35) hKq rfl
  have hR0 := far4 hRq (show w.heap.size ≠ w.heap.size + 1 by omega) k35
  have hB0 := below_put4 hBq (show w.heap.size ≤ w.heap.size + 1 by omega) k35
  have hT0 := turns_far hTq hgT (below_put4 (Below.refl w.heap.size w0) (show w.heap.size ≤ w.heap.size + 1 by omega) k35)
  have hbl := hr.1
  have hr0 : RdL ((((w0.setCell ⟨w.heap.size + 1, 0, none⟩ (.int .u32 k35.d0)).setCell ⟨w.heap.size + 1, 1, none⟩ (.int .u32 k35.d1)).setCell ⟨w.heap.size + 1, 2, none⟩ (.int .u32 k35.d2)).setCell ⟨w.heap.size + 1, 3, none⟩ (.int .u32 k35.d3)) b o l := hr.thr hB0 hbl hB0.size
  simp only [k35] at hK0 hR0 hB0 hT0 hr0
  clear hRq hKq hBq hrq hTq
  have HV := Lib.hid hv
  have HL := Lib.hid hl
  have HN := Lib.hid hn
  clear hr hT hv hl hn
  go_enter Tryd.func29, Tryd.ntmps29
  go_wp2_with fail
  clear hw0 k0 k1 k2 k3 f0 f1 f2 f3
  generalize (((w0.setCell ⟨w.heap.size + 1, 0, none⟩ (.int .u32 35)).setCell ⟨w.heap.size + 1, 1, none⟩ (.int .u32 0)).setCell ⟨w.heap.size + 1, 2, none⟩ (.int .u32 0)).setCell ⟨w.heap.size + 1, 3, none⟩ (.int .u32 0) = wz at *
  go_loopw [9] (fun i wr => ∃ k : Nat, k ≤ n ∧ i = .int .i64 (k : Int) ∧ Arr .u32 24 (w.heap.size + 1) ((l.take k).foldl pairS k35).toL wr ∧ Arr .u32 24 w.heap.size [0, 0, 0, 0] wr ∧ RdL wr b o l ∧ TurnsOk wr ∧ Below w.heap.size w wr) (fun i _ => n - (intOf i).toNat)
  case atStart => exact ⟨0, Nat.zero_le _, rfl, hK0, hR0, hr0, hT0, hB0⟩
  case round =>
    clear hK0 hR0 hr0 hT0 hB0
    obtain ⟨k, hk, rfl, hK, hR, hr, hT, hB⟩ := hrel
    obtain ⟨y, hy⟩ : ∃ y, (l.take k).foldl pairS k35 = y := ⟨_, rfl⟩
    rw [hy] at hK
    by_cases hlt : k < n
    · have hkd : decide ((k : Int) < (n : Int)) = true := by simp; omega
      have hkl : k < l.length := by have := HN.out; omega
      have hk0 : (0 : Int) ≤ (k : Int) := by omega
      have hk1 : (k : Int) < (n : Int) := by omega
      have hyo : y.ok := by rw [← hy]; exact foldl_ok _ _ k35_ok (HL.out.take k)
      obtain ⟨c0, c1, c2, c3⟩ := hr.2 k hkl
      obtain ⟨x, hx⟩ : ∃ x, l.getD k zeroD = x := ⟨_, rfl⟩
      have hxo : x.ok := by rw [← hx]; exact getD_ok HL.out k
      obtain ⟨z, hz⟩ : ∃ z, pairS y x = z := ⟨_, rfl⟩
      have HZ : Hid ((l.take (k + 1)).foldl pairS k35 = z) := by show _ = _; rw [fold_next l _ k hkl, hy, hx, hz]
      have HZ0 := Lib.hid hz
      rw [hx] at c0 c1 c2 c3
      obtain ⟨w2, hw2⟩ : ∃ w2, wr.alloc (.cells #[.int .u32 x.d0, .int .u32 x.d1, .int .u32 x.d2, .int .u32 x.d3] 24) = w2 := ⟨_, rfl⟩
      have hX2 : Arr .u32 24 wr.heap.size x.toL w2 := by rw [← hw2]; exact heap_alloc_new wr _
      have hD2 : Below wr.heap.size wr w2 := by rw [← hw2]; exact (Below.refl _ _).alloc (Nat.le_refl _) _
      have hK2 := hK.on hD2
      have hR2 := hR.on hD2
      have hr2 := hr.on hD2
      have hT2 := hT.below hD2
      have hB2 := hB.trans (hD2.mono hB.size)
      have HYO := Lib.hid hyo
      have HXO := Lib.hid hxo
      obtain ⟨l0, l1, l2, l3⟩ := Arr.c4 hK2
      obtain ⟨m0, m1, m2, m3⟩ := Arr.c4 hX2
      clear hy hz hyo hx hxo hK hR hr hT hB hD2 hX2
      go_wp2_with fail
      clear hw2
      refine (cpair_val y x z w2 HYO.out HXO.out hT2 HZ0.out).mono ?_
      rintro e w3 ⟨rfl, hD⟩
      have hK3 := hK2.on hD
      have hR3 := hR2.on hD
      have hr3 := hr2.on hD
      have hT3 := hT2.below hD
      have hB3 := hB2.trans (hD.mono hB2.size)
      clear hK2 hR2 hr2 hT2 hB2 hD l0 l1 l2 l3 m0 m1 m2 m3 c0 c1 c2 c3
      obtain ⟨k0, k1, k2, k3⟩ := Arr.c4 hK3
      obtain ⟨f0, f1, f2, f3⟩ := hK3.f4
      have hK4 := put4 (d := z) hK3 rfl
      have hR4 := far4 hR3 (show w.heap.size ≠ w.heap.size + 1 by omega) z
      have hB4' := below_put4 (Below.refl w.heap.size w3) (show w.heap.size ≤ w.heap.size + 1 by omega) z
      have hB4 := below_put4 hB3 (show w.heap.size ≤ w.heap.size + 1 by omega) z
      have hT4 := turns_far hT3 (show 0 < w.heap.size by exact hgT) (below_put4 (Below.refl w.heap.size w3) (show w.heap.size ≤ w.heap.size + 1 by omega) z)
      have hr4 := hr3.thr hB4' hbl (Nat.le_trans hB3.size hB4'.size)
      go_wp2_with fail
      generalize (((w3.setCell ⟨w.heap.size + 1, 0, none⟩ (.int .u32 z.d0)).setCell ⟨w.heap.size + 1, 1, none⟩ (.int .u32 z.d1)).setCell ⟨w.heap.size + 1, 2, none⟩ (.int .u32 z.d2)).setCell ⟨w.heap.size + 1, 3, none⟩ (.int .u32 z.d3) = w4 at *
      go_roundw
      case rel => exact ⟨k + 1, by omega, by go_num, by rw [HZ.out]; exact hK4, hR4, hr4, hT4, hB4⟩
      case measure => simp [intOf]; omega
    · have hkn : k = n := by omega
      subst hkn
      have HY : Hid (v = y) := by
        show _ = _
        rw [← hy, List.take_of_length_le (by have := HN.out; omega), ← HV.out, endsD]
      clear hy
      obtain ⟨l0, l1, l2, l3⟩ := Arr.c4 hK
      obtain ⟨b0, b1, b2, b3⟩ := Arr.c4 (d := zeroD) hR
      obtain ⟨f0, f1, f2, f3⟩ := hR.f4
      have hRf := put4 (d := y) hR rfl
      have hBf := below_put4 hB (Nat.le_refl _) y
      go_wp2_with fail
      generalize (((wr.setCell ⟨w.heap.size, 0, none⟩ (.int .u32 y.d0)).setCell ⟨w.heap.size, 1, none⟩ (.int .u32 y.d1)).setCell ⟨w.heap.size, 2, none⟩ (.int .u32 y.d2)).setCell ⟨w.heap.size, 3, none⟩ (.int .u32 y.d3) = wf at *
      obtain ⟨r0, r1, r2, r3⟩ := hRf.c4
      refine bodyPost_ret (v := y.val) (by simp [results, Tryd.results29, go_sem, D4.val, r0, r1, r2, r3]) rfl ⟨by rw [HY.out], hBf⟩
end Go.Proofs.YtkgkmpelclmllaaDoor
