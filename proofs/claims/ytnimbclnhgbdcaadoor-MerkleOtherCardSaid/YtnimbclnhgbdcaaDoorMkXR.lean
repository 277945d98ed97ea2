/-
  The code's roots, on the right (written by gen_roots.py).
-/
import Derived.Test.YtnimbclnhgbdcaaDoorMkX
import Derived.Deep.AppendLies
namespace Go.Proofs.YtnimbclnhgbdcaaDoor
open Go.RowKit Go.Lib

set_option maxHeartbeats 4000000 in
set_option maxRecDepth 100000 in
theorem rts_right (n : Nat) (h2 : 2 ≤ n) (hle : n ≤ 1000000) (H : RTS (n - half n)) (m : Nat) (hm1 : 1 ≤ m) (hml : m ≤ n) (hne : m ≠ n) (hi : ¬ m ≤ half n) (x : D4) (bw : Bool) (q : List D4) (s : Bool) (g cap : Nat) (a : Option Addr) (w : World) (hx : x.ok) (hq : allD4 q) (hR : restB g (.slice a q.length cap) s w) (hr : RdG g w a q) (hc : q.length ≤ cap) (hm : cap ≤ maxLen) (hT : TurnsOk w) :
    Calls Tryd.prog 38 #[.pointer (some ⟨g, 0, none⟩), x.val, .int .i64 (m : Int), .int .i64 (n : Int), .bool bw] w fun e w' => e = .returned (.tuple #[(rootsF x m n bw q s).1.val, (rootsF x m n bw q s).2.1.val]) ∧ Rest w.heap.size g w w' (.slice a (rootsF x m n bw q s).2.2.1.length cap) (rootsF x m n bw q s).2.2.2 := by
  have _u := And.intro hm1 (And.intro hml hne)
  have hk1 := half_lt h2
  have hk0 := half_pos n
  obtain ⟨k, hk⟩ : ∃ k, half n = k := ⟨_, rfl⟩
  obtain ⟨⟨y, q1, s1⟩, ht⟩ : ∃ t, takeF q s = t := ⟨_, rfl⟩
  have hto := takeF_ok hq s
  rw [ht] at hto
  obtain ⟨hyo, hq1⟩ := hto
  have hyo : y.ok := hyo
  have hq1 : allD4 q1 := hq1
  have hfo := rootsF_ok (n - half n) (m - half n) x false q1 s1 (by omega) (by omega) hx hq1
  obtain ⟨⟨f, z, q2, s2⟩, hz⟩ : ∃ t, rootsF x (m - half n) (n - half n) false q1 s1 = t := ⟨_, rfl⟩
  rw [hz] at hfo
  obtain ⟨hfo, hzo⟩ := hfo
  have hfo : f.ok := hfo
  have hzo : z.ok := hzo
  obtain ⟨u, hu⟩ : ∃ u, pairS y f = u := ⟨_, rfl⟩
  obtain ⟨v, hv⟩ : ∃ v, pairS y z = v := ⟨_, rfl⟩
  have HE : Hid (rootsF x m n bw q s = (u, v, q2, s2)) := by show _ = _; rw [rootsF_right (by omega) hi, ht, ← hv, ← hu]; show (pairS y (rootsF x (m - half n) (n - half n) false q1 s1).1, pairS y (rootsF x (m - half n) (n - half n) false q1 s1).2.1, (rootsF x (m - half n) (n - half n) false q1 s1).2.2) = _; rw [hz]
  have HU := Lib.hid hu
  rw [HE.out]
  show Calls _ _ _ w fun e w' => e = .returned (.tuple #[u.val, v.val]) ∧ Rest w.heap.size g w w' (.slice a q2.length cap) s2
  rw [hk] at hk0 hk1 hi H hz
  obtain ⟨N, hN⟩ : ∃ N, q.length = N := ⟨_, rfl⟩
  rw [hN] at hR hc
  have HT := Lib.hid ht
  have HZ := Lib.hid hz
  have HV := Lib.hid hv
  have HK := Lib.hid hk
  have HN := Lib.hid hN
  clear ht hz hv hk hN hu
  have hn1 : ((m : Int) == (n : Int)) = false := by simp; omega
  have hdi : decide ((m : Int) ≤ (k : Int)) = false := by simp; omega
  obtain ⟨w0, hw0⟩ : ∃ w0, ((w.alloc (.cells #[.int .u32 x.d0, .int .u32 x.d1, .int .u32 x.d2, .int .u32 x.d3] 26)).alloc (.cells #[.int .u32 0, .int .u32 0, .int .u32 0, .int .u32 0] 26)).alloc (.cells #[.int .u32 0, .int .u32 0, .int .u32 0, .int .u32 0] 26) = w0 := ⟨_, rfl⟩
  obtain ⟨hL, hA, hS, hB, hsz⟩ := start4zz x w w0 hw0
  have hg := hR.lt
  have hRest0 := Rest.ofBelow hB (hR.on hB hg)
  have hr0 := hr.on hB
  have hT0 := hT.below hB
  clear hr hB
  go_enter Tryd.func38, Tryd.ntmps38
  simp only [D4.val]
  go_wp2_with fail
  clear hw0
  refine (chalf_any n w0 h2 hle).mono ?_
  rintro e w0 ⟨rfl, rfl⟩
  rw [HK.out]
  go_wp2_with fail
  refine (rtk_any q q1 y g cap a s s1 N w0 HT.out HN.out.symm hRest0.here hr0 hc hm).mono ?_
  rintro e w1 ⟨rfl, hA1, hr1, hc1⟩
  have hT1 := hT0.onR hA1 (Nat.le_refl _) hRest0.here
  have hL1 := hL.onR hA1 hL.lt (by omega)
  have hA1' := hA.onR hA1 hA.lt (by omega)
  have hS1 := hS.onR hA1 hS.lt (by omega)
  have hRest1 := hRest0.trans hA1 hRest0.size
  have hs01 : w.heap.size + 1 + 1 + 1 ≤ w1.heap.size := by have := hA1.size; omega
  clear hr0 hT0 hL hA hS hRest0 hA1 hsz
  obtain ⟨w2, hw2⟩ : ∃ w2, w1.alloc (.cells #[.int .u32 y.d0, .int .u32 y.d1, .int .u32 y.d2, .int .u32 y.d3] 26) = w2 := ⟨_, rfl⟩
  have hY2 : Arr .u32 26 w1.heap.size y.toL w2 := by rw [← hw2]; exact heap_alloc_new w1 _
  have hAl : Below w1.heap.size w1 w2 := by rw [← hw2]; exact (Below.refl _ _).alloc (Nat.le_refl _) _
  have hL2 := hL1.on hAl
  have hA2 := hA1'.on hAl
  have hS2 := hS1.on hAl
  have hT2 := hT1.below hAl
  have hr2 := hr1.on hAl
  have hRest2 := hRest1.below hAl (by omega) (by omega)
  have hs12 := hAl.size
  have hlt2 := hY2.lt
  clear hL1 hA1' hS1 hT1 hr1 hRest1 hAl
  obtain ⟨l0, l1, l2, l3⟩ := Arr.c4 hL2
  have hwn : IntKind.i64.wrap ((n : Int) - (k : Int)) = ((n - k : Nat) : Int) := by rw [IntWalk.i64_in _ (by omega)]; omega
  have hwi : IntKind.i64.wrap ((m : Int) - (k : Int)) = ((m - k : Nat) : Int) := by rw [IntWalk.i64_in _ (by omega)]; omega
  go_wp2_with fail
  clear hw2
  refine (rts_val (n - k) H (m - k) x f z false q1 q2 s1 s2 g cap a _ _ w2 rfl rfl (by omega) (by omega) hx hq1 hRest2.here hr2 hc1 hm hT2 HZ.out).mono ?_
  rintro e w3 ⟨rfl, hA3⟩
  have hY3 := hY2.onR hA3 hY2.lt (by omega)
  have hA4 := hA2.onR hA3 hA2.lt (by omega)
  have hS4 := hS2.onR hA3 hS2.lt (by omega)
  have hT3 := hT2.onR hA3 (Nat.le_refl _) hRest2.here
  have hs3 := hA3.size
  have hRest3 := hRest2.trans hA3 (by omega)
  clear hY2 hA2 hS2 hT2 hRest2 hA3 l0 l1 l2 l3 hL2 hr2
  obtain ⟨k0, k1, k2, k3⟩ := Arr.c4 (d := zeroD) hA4
  obtain ⟨f0, f1, f2, f3⟩ := hA4.f4
  obtain ⟨m0, m1, m2, m3⟩ := Arr.c4 (d := zeroD) hS4
  obtain ⟨e0, e1, e2, e3⟩ := hS4.f4
  obtain ⟨hf1, hf2⟩ := fin44 (d := f) (e := z) hA4 rfl hS4 rfl
  have hY4 := far4 (far4 hY3 (show w1.heap.size ≠ w.heap.size + 1 by omega) f) (show w1.heap.size ≠ w.heap.size + 1 + 1 by omega) z
  have hRest4 := hRest3.put44 (b := w.heap.size + 1) (by omega) (by omega) (by omega) f z
  have hT4 : TurnsOk ((((((((w3.setCell ⟨w.heap.size + 1, 0, none⟩ (.int .u32 f.d0)).setCell ⟨w.heap.size + 1, 1, none⟩ (.int .u32 f.d1)).setCell ⟨w.heap.size + 1, 2, none⟩ (.int .u32 f.d2)).setCell ⟨w.heap.size + 1, 3, none⟩ (.int .u32 f.d3)).setCell ⟨w.heap.size + 1 + 1, 0, none⟩ (.int .u32 z.d0)).setCell ⟨w.heap.size + 1 + 1, 1, none⟩ (.int .u32 z.d1)).setCell ⟨w.heap.size + 1 + 1, 2, none⟩ (.int .u32 z.d2)).setCell ⟨w.heap.size + 1 + 1, 3, none⟩ (.int .u32 z.d3)) := hT.onR hRest4 (Nat.le_refl _) hR
  clear hA4 hS4 hY3 hRest3 hT3
  go_wp2_with fail
  clear k0 k1 k2 k3 f0 f1 f2 f3 m0 m1 m2 m3 e0 e1 e2 e3
  generalize ((((((((w3.setCell ⟨w.heap.size + 1, 0, none⟩ (.int .u32 f.d0)).setCell ⟨w.heap.size + 1, 1, none⟩ (.int .u32 f.d1)).setCell ⟨w.heap.size + 1, 2, none⟩ (.int .u32 f.d2)).setCell ⟨w.heap.size + 1, 3, none⟩ (.int .u32 f.d3)).setCell ⟨w.heap.size + 1 + 1, 0, none⟩ (.int .u32 z.d0)).setCell ⟨w.heap.size + 1 + 1, 1, none⟩ (.int .u32 z.d1)).setCell ⟨w.heap.size + 1 + 1, 2, none⟩ (.int .u32 z.d2)).setCell ⟨w.heap.size + 1 + 1, 3, none⟩ (.int .u32 z.d3)) = w4 at *
  have hF : Arr .u32 26 (w.heap.size + 1) f.toL w4.drew := hf1
  have hG : Arr .u32 26 (w.heap.size + 1 + 1) z.toL w4.drew := hf2
  have hYd : Arr .u32 26 w1.heap.size y.toL w4.drew := hY4
  have hRd := hRest4.drew
  have hTd : TurnsOk w4.drew := hT4
  obtain ⟨y0, y1, y2, y3⟩ := hYd.c4
  have hyc : w1.heap.size ≠ w.heap.size + 1 := by omega
  have hyd : w1.heap.size ≠ w.heap.size + 1 + 1 := by omega
  obtain ⟨k0, k1, k2, k3⟩ := hF.c4
  obtain ⟨m0, m1, m2, m3⟩ := hG.c4
  have hsd : w.heap.size ≤ w4.drew.heap.size := hRd.size
  clear hf1 hf2 hY4 hRest4 hT4
  refine wp_region_held_drew (S := fun w' => w'.cell? ⟨w1.heap.size, 0, none⟩ = some (.int .u32 y.d0) ∧ w'.cell? ⟨w1.heap.size, 1, none⟩ = some (.int .u32 y.d1) ∧ w'.cell? ⟨w1.heap.size, 2, none⟩ = some (.int .u32 y.d2) ∧ w'.cell? ⟨w1.heap.size, 3, none⟩ = some (.int .u32 y.d3)) (by kernel_rfl) ⟨y0, y1, y2, y3⟩ (fun hHeld => ?_)
  refine wpAnyH_take (i := 0) (oi := _) (v := ?vv0) rfl (by kernel_rfl) (by kernel_rfl) (by kernel_rfl) (fun _ _ _ h => h) (Or.inl ⟨by rfl, ?hy0⟩) hHeld ?rest0
  case hy0 => intro w hSw; obtain ⟨q0, q1, q2, q3⟩ := hSw; go_simp; try with_reducible rfl
  try simp only [Act.put, List.setIfInBounds_toArray]
  refine wpAnyH_take (i := 3) (oi := _) (v := ?vv3) rfl (by kernel_rfl) (by kernel_rfl) (by kernel_rfl) (fun _ _ _ h => h) (Or.inl ⟨by rfl, ?hy3⟩) hHeld ?rest3
  case hy3 => intro w hSw; obtain ⟨q0, q1, q2, q3⟩ := hSw; go_simp; try with_reducible rfl
  try simp only [Act.put]
  refine wpAnyH_ready (rs := [1, 4]) (by kernel_rfl) (by simp) ?_
  refine AllReadyH.cons (o := _) rfl (fun K hK => ?_) ?_
  · go_simp
    refine hK.out _ _ (hHeld) (fun hHeld => ?_)
    clear hK K
    try simp only [Act.put, List.setIfInBounds_toArray, List.set_cons_zero, List.set_cons_succ]
    refine wpAnyH_ready (rs := [2, 4]) (by kernel_rfl) (by simp) ?_
    refine AllReadyH.cons (o := _) rfl (fun K hK => ?_) ?_
    · go_simp
      go_at_call 29; (with_reducible refine (cpair_val y f u _ hyo hfo hTd HU.out).mono ?_); rintro e w5 ⟨rfl, hA5⟩; have hF5 := hF.on hA5; have hG5 := hG.on hA5; have hR5 := hRd.below hA5 hsd hRd.here.lt; have hT5 := hTd.below hA5; obtain ⟨m0, m1, m2, m3⟩ := hG5.c4
      go_wp2_with fail
      refine hK.out _ _ (keep1b hA5 hHeld) (fun hHeld => ?_)
      clear hK K
      try simp only [Act.put, List.setIfInBounds_toArray, List.set_cons_zero, List.set_cons_succ]
      refine wpAnyH_ready (rs := [4]) (by kernel_rfl) (by simp) ?_
      refine AllReadyH.cons (o := _) rfl (fun K hK => ?_) ?_
      · go_simp
        refine hK.out _ _ (hHeld) (fun hHeld => ?_)
        clear hK K
        try simp only [Act.put, List.setIfInBounds_toArray, List.set_cons_zero, List.set_cons_succ]
        refine wpAnyH_ready (rs := [5]) (by kernel_rfl) (by simp) ?_
        refine AllReadyH.cons (o := _) rfl (fun K hK => ?_) ?_
        · go_simp
          go_at_call 29; (with_reducible refine (cpair_val y z v _ hyo hzo hT5 HV.out).mono ?_); rintro e w6 ⟨rfl, hA6⟩; have hF6 := hF5.on hA6; have hG6 := hG5.on hA6; have hR6 := hR5.below hA6 hR5.size hR5.here.lt; obtain ⟨k0, k1, k2, k3⟩ := hF6.c4; obtain ⟨f0, f1, f2, f3⟩ := hF6.f4; obtain ⟨m0, m1, m2, m3⟩ := hG6.c4; obtain ⟨e0, e1, e2, e3⟩ := hG6.f4
          go_wp2_with fail
          refine hK.out _ _ (keep1b hA6 hHeld) (fun hHeld => ?_)
          clear hK K
          try simp only [Act.put, List.setIfInBounds_toArray, List.set_cons_zero, List.set_cons_succ]
          refine wpAnyH_ready (rs := [6]) (by kernel_rfl) (by simp) ?_
          refine AllReadyH.cons (o := _) rfl (fun K hK => ?_) ?_
          · go_simp
            refine hK.out _ _ (keep1s hyc hHeld) (fun hHeld => ?_)
            clear hK K
            try simp only [Act.put, List.setIfInBounds_toArray, List.set_cons_zero, List.set_cons_succ]
            refine wpAnyH_ready (rs := [7]) (by kernel_rfl) (by simp) ?_
            refine AllReadyH.cons (o := _) rfl (fun K hK => ?_) ?_
            · go_simp
              refine hK.out _ _ (keep1s hyd hHeld) (fun hHeld => ?_)
              clear hK K
              try simp only [Act.put, List.setIfInBounds_toArray, List.set_cons_zero, List.set_cons_succ]
              refine wpAnyH_done (by kernel_rfl) ?_ _
              obtain ⟨hf1, hf2⟩ := fin44 (d := u) (e := v) hF6 rfl hG6 rfl
              have hBf := hR6.put44 (b := w.heap.size + 1) (by omega) (by omega) (by omega) u v
              clear k0 k1 k2 k3 f0 f1 f2 f3 m0 m1 m2 m3 e0 e1 e2 e3
              go_wp2_with fail
              generalize ((((((((w6.setCell ⟨w.heap.size + 1, 0, none⟩ (.int .u32 u.d0)).setCell ⟨w.heap.size + 1, 1, none⟩ (.int .u32 u.d1)).setCell ⟨w.heap.size + 1, 2, none⟩ (.int .u32 u.d2)).setCell ⟨w.heap.size + 1, 3, none⟩ (.int .u32 u.d3)).setCell ⟨w.heap.size + 1 + 1, 0, none⟩ (.int .u32 v.d0)).setCell ⟨w.heap.size + 1 + 1, 1, none⟩ (.int .u32 v.d1)).setCell ⟨w.heap.size + 1 + 1, 2, none⟩ (.int .u32 v.d2)).setCell ⟨w.heap.size + 1 + 1, 3, none⟩ (.int .u32 v.d3)) = wf at *
              obtain ⟨r0, r1, r2, r3⟩ := hf1.c4
              obtain ⟨u0, u1, u2, u3⟩ := hf2.c4
              refine bodyPost_ret (v := .tuple #[u.val, v.val]) (by simp [results, Tryd.results38, go_sem, D4.val, r0, r1, r2, r3, u0, u1, u2, u3]) rfl ⟨rfl, hBf⟩
            exact AllReadyH.nil
          exact AllReadyH.nil
        exact AllReadyH.nil
      exact AllReadyH.nil
    refine AllReadyH.cons (o := _) rfl (fun K hK => ?_) ?_
    · go_simp
      refine hK.out _ _ (hHeld) (fun hHeld => ?_)
      clear hK K
      try simp only [Act.put, List.setIfInBounds_toArray, List.set_cons_zero, List.set_cons_succ]
      refine wpAnyH_ready (rs := [2]) (by kernel_rfl) (by simp) ?_
      refine AllReadyH.cons (o := _) rfl (fun K hK => ?_) ?_
      · go_simp
        go_at_call 29; (with_reducible refine (cpair_val y f u _ hyo hfo hTd HU.out).mono ?_); rintro e w5 ⟨rfl, hA5⟩; have hF5 := hF.on hA5; have hG5 := hG.on hA5; have hR5 := hRd.below hA5 hsd hRd.here.lt; have hT5 := hTd.below hA5; obtain ⟨m0, m1, m2, m3⟩ := hG5.c4
        go_wp2_with fail
        refine hK.out _ _ (keep1b hA5 hHeld) (fun hHeld => ?_)
        clear hK K
        try simp only [Act.put, List.setIfInBounds_toArray, List.set_cons_zero, List.set_cons_succ]
        refine wpAnyH_ready (rs := [5]) (by kernel_rfl) (by simp) ?_
        refine AllReadyH.cons (o := _) rfl (fun K hK => ?_) ?_
        · go_simp
          go_at_call 29; (with_reducible refine (cpair_val y z v _ hyo hzo hT5 HV.out).mono ?_); rintro e w6 ⟨rfl, hA6⟩; have hF6 := hF5.on hA6; have hG6 := hG5.on hA6; have hR6 := hR5.below hA6 hR5.size hR5.here.lt; obtain ⟨k0, k1, k2, k3⟩ := hF6.c4; obtain ⟨f0, f1, f2, f3⟩ := hF6.f4; obtain ⟨m0, m1, m2, m3⟩ := hG6.c4; obtain ⟨e0, e1, e2, e3⟩ := hG6.f4
          go_wp2_with fail
          refine hK.out _ _ (keep1b hA6 hHeld) (fun hHeld => ?_)
          clear hK K
          try simp only [Act.put, List.setIfInBounds_toArray, List.set_cons_zero, List.set_cons_succ]
          refine wpAnyH_ready (rs := [6]) (by kernel_rfl) (by simp) ?_
          refine AllReadyH.cons (o := _) rfl (fun K hK => ?_) ?_
          · go_simp
            refine hK.out _ _ (keep1s hyc hHeld) (fun hHeld => ?_)
            clear hK K
            try simp only [Act.put, List.setIfInBounds_toArray, List.set_cons_zero, List.set_cons_succ]
            refine wpAnyH_ready (rs := [7]) (by kernel_rfl) (by simp) ?_
            refine AllReadyH.cons (o := _) rfl (fun K hK => ?_) ?_
            · go_simp
              refine hK.out _ _ (keep1s hyd hHeld) (fun hHeld => ?_)
              clear hK K
              try simp only [Act.put, List.setIfInBounds_toArray, List.set_cons_zero, List.set_cons_succ]
              refine wpAnyH_done (by kernel_rfl) ?_ _
              obtain ⟨hf1, hf2⟩ := fin44 (d := u) (e := v) hF6 rfl hG6 rfl
              have hBf := hR6.put44 (b := w.heap.size + 1) (by omega) (by omega) (by omega) u v
              clear k0 k1 k2 k3 f0 f1 f2 f3 m0 m1 m2 m3 e0 e1 e2 e3
              go_wp2_with fail
              generalize ((((((((w6.setCell ⟨w.heap.size + 1, 0, none⟩ (.int .u32 u.d0)).setCell ⟨w.heap.size + 1, 1, none⟩ (.int .u32 u.d1)).setCell ⟨w.heap.size + 1, 2, none⟩ (.int .u32 u.d2)).setCell ⟨w.heap.size + 1, 3, none⟩ (.int .u32 u.d3)).setCell ⟨w.heap.size + 1 + 1, 0, none⟩ (.int .u32 v.d0)).setCell ⟨w.heap.size + 1 + 1, 1, none⟩ (.int .u32 v.d1)).setCell ⟨w.heap.size + 1 + 1, 2, none⟩ (.int .u32 v.d2)).setCell ⟨w.heap.size + 1 + 1, 3, none⟩ (.int .u32 v.d3)) = wf at *
              obtain ⟨r0, r1, r2, r3⟩ := hf1.c4
              obtain ⟨u0, u1, u2, u3⟩ := hf2.c4
              refine bodyPost_ret (v := .tuple #[u.val, v.val]) (by simp [results, Tryd.results38, go_sem, D4.val, r0, r1, r2, r3, u0, u1, u2, u3]) rfl ⟨rfl, hBf⟩
            exact AllReadyH.nil
          exact AllReadyH.nil
        exact AllReadyH.nil
      exact AllReadyH.nil
    exact AllReadyH.nil
  refine AllReadyH.cons (o := _) rfl (fun K hK => ?_) ?_
  · go_simp
    refine hK.out _ _ (hHeld) (fun hHeld => ?_)
    clear hK K
    try simp only [Act.put, List.setIfInBounds_toArray, List.set_cons_zero, List.set_cons_succ]
    refine wpAnyH_ready (rs := [1]) (by kernel_rfl) (by simp) ?_
    refine AllReadyH.cons (o := _) rfl (fun K hK => ?_) ?_
    · go_simp
      refine hK.out _ _ (hHeld) (fun hHeld => ?_)
      clear hK K
      try simp only [Act.put, List.setIfInBounds_toArray, List.set_cons_zero, List.set_cons_succ]
      refine wpAnyH_ready (rs := [2]) (by kernel_rfl) (by simp) ?_
      refine AllReadyH.cons (o := _) rfl (fun K hK => ?_) ?_
      · go_simp
        go_at_call 29; (with_reducible refine (cpair_val y f u _ hyo hfo hTd HU.out).mono ?_); rintro e w5 ⟨rfl, hA5⟩; have hF5 := hF.on hA5; have hG5 := hG.on hA5; have hR5 := hRd.below hA5 hsd hRd.here.lt; have hT5 := hTd.below hA5; obtain ⟨m0, m1, m2, m3⟩ := hG5.c4
        go_wp2_with fail
        refine hK.out _ _ (keep1b hA5 hHeld) (fun hHeld => ?_)
        clear hK K
        try simp only [Act.put, List.setIfInBounds_toArray, List.set_cons_zero, List.set_cons_succ]
        refine wpAnyH_ready (rs := [5]) (by kernel_rfl) (by simp) ?_
        refine AllReadyH.cons (o := _) rfl (fun K hK => ?_) ?_
        · go_simp
          go_at_call 29; (with_reducible refine (cpair_val y z v _ hyo hzo hT5 HV.out).mono ?_); rintro e w6 ⟨rfl, hA6⟩; have hF6 := hF5.on hA6; have hG6 := hG5.on hA6; have hR6 := hR5.below hA6 hR5.size hR5.here.lt; obtain ⟨k0, k1, k2, k3⟩ := hF6.c4; obtain ⟨f0, f1, f2, f3⟩ := hF6.f4; obtain ⟨m0, m1, m2, m3⟩ := hG6.c4; obtain ⟨e0, e1, e2, e3⟩ := hG6.f4
          go_wp2_with fail
          refine hK.out _ _ (keep1b hA6 hHeld) (fun hHeld => ?_)
          clear hK K
          try simp only [Act.put, List.setIfInBounds_toArray, List.set_cons_zero, List.set_cons_succ]
          refine wpAnyH_ready (rs := [6]) (by kernel_rfl) (by simp) ?_
          refine AllReadyH.cons (o := _) rfl (fun K hK => ?_) ?_
          · go_simp
            refine hK.out _ _ (keep1s hyc hHeld) (fun hHeld => ?_)
            clear hK K
            try simp only [Act.put, List.setIfInBounds_toArray, List.set_cons_zero, List.set_cons_succ]
            refine wpAnyH_ready (rs := [7]) (by kernel_rfl) (by simp) ?_
            refine AllReadyH.cons (o := _) rfl (fun K hK => ?_) ?_
            · go_simp
              refine hK.out _ _ (keep1s hyd hHeld) (fun hHeld => ?_)
              clear hK K
              try simp only [Act.put, List.setIfInBounds_toArray, List.set_cons_zero, List.set_cons_succ]
              refine wpAnyH_done (by kernel_rfl) ?_ _
              obtain ⟨hf1, hf2⟩ := fin44 (d := u) (e := v) hF6 rfl hG6 rfl
              have hBf := hR6.put44 (b := w.heap.size + 1) (by omega) (by omega) (by omega) u v
              clear k0 k1 k2 k3 f0 f1 f2 f3 m0 m1 m2 m3 e0 e1 e2 e3
              go_wp2_with fail
              generalize ((((((((w6.setCell ⟨w.heap.size + 1, 0, none⟩ (.int .u32 u.d0)).setCell ⟨w.heap.size + 1, 1, none⟩ (.int .u32 u.d1)).setCell ⟨w.heap.size + 1, 2, none⟩ (.int .u32 u.d2)).setCell ⟨w.heap.size + 1, 3, none⟩ (.int .u32 u.d3)).setCell ⟨w.heap.size + 1 + 1, 0, none⟩ (.int .u32 v.d0)).setCell ⟨w.heap.size + 1 + 1, 1, none⟩ (.int .u32 v.d1)).setCell ⟨w.heap.size + 1 + 1, 2, none⟩ (.int .u32 v.d2)).setCell ⟨w.heap.size + 1 + 1, 3, none⟩ (.int .u32 v.d3)) = wf at *
              obtain ⟨r0, r1, r2, r3⟩ := hf1.c4
              obtain ⟨u0, u1, u2, u3⟩ := hf2.c4
              refine bodyPost_ret (v := .tuple #[u.val, v.val]) (by simp [results, Tryd.results38, go_sem, D4.val, r0, r1, r2, r3, u0, u1, u2, u3]) rfl ⟨rfl, hBf⟩
            exact AllReadyH.nil
          exact AllReadyH.nil
        exact AllReadyH.nil
      exact AllReadyH.nil
    exact AllReadyH.nil
  exact AllReadyH.nil
end Go.Proofs.YtnimbclnhgbdcaaDoor
