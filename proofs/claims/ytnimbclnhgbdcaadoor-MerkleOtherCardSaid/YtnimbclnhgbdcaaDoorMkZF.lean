/-
  The code's clash, into the first half (written by gen_clash.py).
-/
import Derived.Test.YtnimbclnhgbdcaaDoorMkZ
namespace Go.Proofs.YtnimbclnhgbdcaaDoor
open Go.RowKit

set_option maxHeartbeats 4000000 in
set_option maxRecDepth 100000 in
theorem cc_first (a b : List D4) (h1 : a.length = b.length) (hne : a ≠ b) (hrt : rootD a = rootD b) (hle : a.length ≤ 1000000) (hao : allD4 a) (hbo : allD4 b) (h4 : rootD (a.take (half a.length)) = rootD (b.take (half b.length)) ∧ rootD (a.drop (half a.length)) = rootD (b.drop (half b.length))) (h5 : a.take (half a.length) ≠ b.take (half a.length)) (IH : CC (a.take (half a.length)) (b.take (half a.length))) : CC a b := by
  intro p q ba oa ca bb ob cb w hcl hra hrb hca hcam hcb hcbm hT
  have h2 : 2 ≤ a.length := clash_two pairS noneD h1 hne hrt
  obtain ⟨x, hx⟩ : ∃ x, rootD (a.take (half a.length)) = x := ⟨_, rfl⟩
  obtain ⟨z, hz⟩ : ∃ z, rootD (a.drop (half a.length)) = z := ⟨_, rfl⟩
  obtain ⟨u, hu⟩ : ∃ u, rootD (b.take (half b.length)) = u := ⟨_, rfl⟩
  obtain ⟨v, hv⟩ : ∃ v, rootD (b.drop (half b.length)) = v := ⟨_, rfl⟩
  have hcl2 : clashD (a.take (half a.length)) (b.take (half a.length)) = some (p, q) := by
    rw [← hcl]
    exact (clash_first pairS noneD h1 hne hrt (by rw [Decidable.not_not]; exact Prod.ext (by rw [← h1] at h4; exact h4.1) (by rw [← h1] at h4; exact h4.2)) h5).symm
  have hbl : (sameD x u && sameD z v) = true := by
    rw [hx, hz, hu, hv] at h4
    rw [(sameD_iff x u).mpr h4.1, (sameD_iff z v).mpr h4.2]; rfl
  have hdec : decide (a.take (half a.length) = b.take (half a.length)) = false := decide_eq_false h5
  obtain ⟨n, hn⟩ : ∃ n, a.length = n := ⟨_, rfl⟩
  have hn2 : b.length = n := by rw [← h1]; exact hn
  obtain ⟨w0, hw0⟩ : ∃ w0, (w.alloc (.cells #[.int .u32 0, .int .u32 0, .int .u32 0, .int .u32 0, .int .u32 0, .int .u32 0, .int .u32 0, .int .u32 0] 41)).alloc (.cells #[.int .u32 0, .int .u32 0, .int .u32 0, .int .u32 0, .int .u32 0, .int .u32 0, .int .u32 0, .int .u32 0] 41) = w0 := ⟨_, rfl⟩
  obtain ⟨hA, hS, hB, hsz⟩ := start88 w w0 hw0
  have hra0 := hra.on hB
  have hrb0 := hrb.on hB
  have hT0 := hT.below hB
  have hHa : ∀ w, RdL w ba oa a → TurnsOk w → Calls Tryd.prog 28 #[.slice (some ⟨ba, oa, none⟩) n ca] w fun e w' => e = .returned (.agg #[.int .u32 x.d0, .int .u32 x.d1, .int .u32 x.d2, .int .u32 x.d3, .int .u32 z.d0, .int .u32 z.d1, .int .u32 z.d2, .int .u32 z.d3]) ∧ Below w.heap.size w w' := fun w hr hT => halves_any a h2 hle (croot_any _ (by rw [List.length_take]; omega) (hao.take _)) (croot_any _ (by rw [List.length_drop]; omega) (hao.drop _)) x z hx hz n ba oa ca w hn hr (by omega) hcam hT
  have hHb : ∀ w, RdL w bb ob b → TurnsOk w → Calls Tryd.prog 28 #[.slice (some ⟨bb, ob, none⟩) n cb] w fun e w' => e = .returned (.agg #[.int .u32 u.d0, .int .u32 u.d1, .int .u32 u.d2, .int .u32 u.d3, .int .u32 v.d0, .int .u32 v.d1, .int .u32 v.d2, .int .u32 v.d3]) ∧ Below w.heap.size w w' := fun w hr hT => halves_any b (by omega) (by omega) (croot_any _ (by rw [List.length_take]; omega) (hbo.take _)) (croot_any _ (by rw [List.length_drop]; omega) (hbo.drop _)) u v hu hv n bb ob cb w hn2 hr (by omega) hcbm hT
  rw [hn, hn2]
  have hE := eqP_run x z u v
  rw [hbl] at hE
  go_enter Tryd.func41, Tryd.ntmps41
  go_wp2_with fail
  clear hw0
  refine (hHa w0 hra0 hT0).mono ?_
  rintro e w1 ⟨rfl, hA1⟩
  have hA1' := hA.on hA1
  have hS1 := hS.on hA1
  have hB1 := hB.trans (hA1.mono hB.size)
  have hra1 := hra0.on hA1
  have hrb1 := hrb0.on hA1
  have hT1 := hT0.below hA1
  clear hA hS hB hra0 hrb0 hT0 hA1 hsz
  go_wp2_with fail
  refine (hHb w1 hrb1 hT1).mono ?_
  rintro e w2 ⟨rfl, hA2⟩
  have hA2' := hA1'.on hA2
  have hS2 := hS1.on hA2
  have hB2 := hB1.trans (hA2.mono hB1.size)
  have hra2 := hra1.on hA2
  have hrb2 := hrb1.on hA2
  have hT2 := hT1.below hA2
  have hs2 := hA2'.lt
  have hs2' := hS2.lt
  clear hA1' hS1 hB1 hra1 hrb1 hT1 hA2 hHa hHb
  obtain ⟨k0, k1, k2, k3, k4, k5, k6, k7⟩ := Arr.c8 (y := nilS) hA2'
  obtain ⟨f0, f1, f2, f3, f4, f5, f6, f7⟩ := hA2'.f8
  obtain ⟨m0, m1, m2, m3, m4, m5, m6, m7⟩ := Arr.c8 (y := nilS) hS2
  obtain ⟨e0, e1, e2, e3, e4, e5, e6, e7⟩ := hS2.f8
  obtain ⟨w3, hw3⟩ : ∃ w3, ((((((((((((((((w2.setCell ⟨w.heap.size, 0, none⟩ (.int .u32 x.d0)).setCell ⟨w.heap.size, 1, none⟩ (.int .u32 x.d1)).setCell ⟨w.heap.size, 2, none⟩ (.int .u32 x.d2)).setCell ⟨w.heap.size, 3, none⟩ (.int .u32 x.d3)).setCell ⟨w.heap.size, 4, none⟩ (.int .u32 z.d0)).setCell ⟨w.heap.size, 5, none⟩ (.int .u32 z.d1)).setCell ⟨w.heap.size, 6, none⟩ (.int .u32 z.d2)).setCell ⟨w.heap.size, 7, none⟩ (.int .u32 z.d3)).setCell ⟨w.heap.size + 1, 0, none⟩ (.int .u32 u.d0)).setCell ⟨w.heap.size + 1, 1, none⟩ (.int .u32 u.d1)).setCell ⟨w.heap.size + 1, 2, none⟩ (.int .u32 u.d2)).setCell ⟨w.heap.size + 1, 3, none⟩ (.int .u32 u.d3)).setCell ⟨w.heap.size + 1, 4, none⟩ (.int .u32 v.d0)).setCell ⟨w.heap.size + 1, 5, none⟩ (.int .u32 v.d1)).setCell ⟨w.heap.size + 1, 6, none⟩ (.int .u32 v.d2)).setCell ⟨w.heap.size + 1, 7, none⟩ (.int .u32 v.d3)) = w3 := ⟨_, rfl⟩
  obtain ⟨hX3, hY3⟩ : Arr .u32 41 w.heap.size (both8 x z).toL w3 ∧ Arr .u32 41 (w.heap.size + 1) (both8 u v).toL w3 := by rw [← hw3]; exact fin88 hA2' rfl hS2 rfl
  have hB3 : Below w.heap.size w w3 := by rw [← hw3]; exact below_put88 hB2 (Nat.le_refl _) x z u v
  have hB23 : Below w.heap.size w2 w3 := by rw [← hw3]; exact below_put88 (Below.refl _ _) (Nat.le_refl _) x z u v
  have X8 := Arr.c8 hX3
  have Y8 := Arr.c8 hY3
  simp only [both8] at X8 Y8
  obtain ⟨x0, x1, x2, x3, x4, x5, x6, x7⟩ := X8
  obtain ⟨y0, y1, y2, y3, y4, y5, y6, y7⟩ := Y8
  obtain ⟨k, hk⟩ : ∃ k, half a.length = k := ⟨_, rfl⟩
  rw [hk] at IH hcl2 hdec
  have hk' : half n = k := by rw [← hn]; exact hk
  have hkn : k < n := by rw [← hk', ← hn]; exact half_lt h2
  have hkp : 0 < k := by rw [← hk']; exact half_pos n
  have HLA : Hid ((a.take k).length = k) := by show _ = _; rw [List.length_take]; omega
  have HLB : Hid ((b.take k).length = k) := by show _ = _; rw [List.length_take]; omega
  have HDA : Hid ((a.drop k).length = n - k) := by show _ = _; rw [List.length_drop]; omega
  have HDB : Hid ((b.drop k).length = n - k) := by show _ = _; rw [List.length_drop]; omega
  have h2n : 2 ≤ n := by omega
  have hlen : n ≤ 1000000 := by omega
  have hcan : n ≤ ca := by omega
  have hcbn : n ≤ cb := by omega
  have hra3 := hra.on hB3
  have hrb3 := hrb.on hB3
  have hT3 := hT.below hB3
  have HK := Lib.hid hk'
  have HD := Lib.hid hdec
  clear hA2' hS2 hB2 hra2 hrb2 hT2 hk hk' hdec hn hn2 h1 hne hrt h4 h5 hx hz hu hv hcl hle h2 hca hcb
  go_wp2_with fail
  clear k0 k1 k2 k3 k4 k5 k6 k7 f0 f1 f2 f3 f4 f5 f6 f7 m0 m1 m2 m3 m4 m5 m6 m7 e0 e1 e2 e3 e4 e5 e6 e7 hw3
  refine (split_any n k ca ba oa w3 h2n hlen HK.out hcan hcam).mono ?_
  rintro e w4 ⟨rfl, hA4⟩
  have hX4 := hX3.on hA4
  have hY4 := hY3.on hA4
  have hB4 := hB3.trans (hA4.mono hB3.size)
  clear x0 x1 x2 x3 x4 x5 x6 x7 y0 y1 y2 y3 y4 y5 y6 y7
  go_wp2_with fail
  refine (split_any n k cb bb ob w4 h2n hlen HK.out hcbn hcbm).mono ?_
  rintro e w5 ⟨rfl, hA5⟩
  have hX5 := hX4.on hA5
  have hY5 := hY4.on hA5
  have hB5 := hB4.trans (hA5.mono hB4.size)
  have hra5 := hra.on hB5
  have hrb5 := hrb.on hB5
  go_wp2_with fail
  refine (cequal_any (a.take k) (b.take k) _ _ k k ca cb w5 HLA.out.symm HLB.out.symm (fun _ => ⟨ba, oa, rfl, hra5.take k⟩) (fun _ => ⟨bb, ob, rfl, hrb5.take k⟩) (by omega) hcam (by omega) hcbm).mono ?_
  rintro e w6 ⟨rfl, hA6⟩
  rw [HD.out]
  have hX6 := hX5.on hA6
  have hY6 := hY5.on hA6
  have hB6 := hB5.trans (hA6.mono hB5.size)
  have hra6 := hra.on hB6
  have hrb6 := hrb.on hB6
  have hT6 := hT.below hB6
  go_wp2_with fail
  refine (cc_val _ _ IH p.1 p.2 q.1 q.2 ba oa ca bb ob cb k k w6 HLA.out.symm HLB.out.symm hcl2 (hra6.take k) (hrb6.take k) (by rw [HLA.out]; omega) hcam (by rw [HLB.out]; omega) hcbm hT6).mono ?_
  rintro e w7 ⟨rfl, hA7⟩
  have hX7 := hX6.on hA7
  have hY7 := hY6.on hA7
  have hB7 := hB6.trans (hA7.mono hB6.size)
  obtain ⟨k0, k1, k2, k3, k4, k5, k6, k7⟩ := Arr.c8 (y := both8 x z) hX7
  obtain ⟨f0, f1, f2, f3, f4, f5, f6, f7⟩ := hX7.f8
  obtain ⟨m0, m1, m2, m3, m4, m5, m6, m7⟩ := Arr.c8 (y := both8 u v) hY7
  obtain ⟨e0, e1, e2, e3, e4, e5, e6, e7⟩ := hY7.f8
  obtain ⟨hf1, hf2⟩ := fin88 (x := p.1) (z := p.2) (u := q.1) (v := q.2) hX7 rfl hY7 rfl
  have hBf := below_put88 (b := w.heap.size) hB7 (Nat.le_refl _) p.1 p.2 q.1 q.2
  clear hX3 hX4 hX5 hX6 hY3 hY4 hY5 hY6
  go_wp2_with fail
  clear k0 k1 k2 k3 k4 k5 k6 k7 f0 f1 f2 f3 f4 f5 f6 f7 m0 m1 m2 m3 m4 m5 m6 m7 e0 e1 e2 e3 e4 e5 e6 e7
  generalize ((((((((((((((((w7.setCell ⟨w.heap.size, 0, none⟩ (.int .u32 p.1.d0)).setCell ⟨w.heap.size, 1, none⟩ (.int .u32 p.1.d1)).setCell ⟨w.heap.size, 2, none⟩ (.int .u32 p.1.d2)).setCell ⟨w.heap.size, 3, none⟩ (.int .u32 p.1.d3)).setCell ⟨w.heap.size, 4, none⟩ (.int .u32 p.2.d0)).setCell ⟨w.heap.size, 5, none⟩ (.int .u32 p.2.d1)).setCell ⟨w.heap.size, 6, none⟩ (.int .u32 p.2.d2)).setCell ⟨w.heap.size, 7, none⟩ (.int .u32 p.2.d3)).setCell ⟨w.heap.size + 1, 0, none⟩ (.int .u32 q.1.d0)).setCell ⟨w.heap.size + 1, 1, none⟩ (.int .u32 q.1.d1)).setCell ⟨w.heap.size + 1, 2, none⟩ (.int .u32 q.1.d2)).setCell ⟨w.heap.size + 1, 3, none⟩ (.int .u32 q.1.d3)).setCell ⟨w.heap.size + 1, 4, none⟩ (.int .u32 q.2.d0)).setCell ⟨w.heap.size + 1, 5, none⟩ (.int .u32 q.2.d1)).setCell ⟨w.heap.size + 1, 6, none⟩ (.int .u32 q.2.d2)).setCell ⟨w.heap.size + 1, 7, none⟩ (.int .u32 q.2.d3)) = wf at *
  have X8 := Arr.c8 hf1
  have Y8 := Arr.c8 hf2
  simp only [both8] at X8 Y8
  obtain ⟨x0, x1, x2, x3, x4, x5, x6, x7⟩ := X8
  obtain ⟨y0, y1, y2, y3, y4, y5, y6, y7⟩ := Y8
  refine bodyPost_ret (v := .tuple #[.agg #[.int .u32 p.1.d0, .int .u32 p.1.d1, .int .u32 p.1.d2, .int .u32 p.1.d3, .int .u32 p.2.d0, .int .u32 p.2.d1, .int .u32 p.2.d2, .int .u32 p.2.d3], .agg #[.int .u32 q.1.d0, .int .u32 q.1.d1, .int .u32 q.1.d2, .int .u32 q.1.d3, .int .u32 q.2.d0, .int .u32 q.2.d1, .int .u32 q.2.d2, .int .u32 q.2.d3]]) (by simp [results, Tryd.results41, go_sem, x0, x1, x2, x3, x4, x5, x6, x7, y0, y1, y2, y3, y4, y5, y6, y7]) rfl ⟨rfl, hBf⟩
end Go.Proofs.YtnimbclnhgbdcaaDoor
