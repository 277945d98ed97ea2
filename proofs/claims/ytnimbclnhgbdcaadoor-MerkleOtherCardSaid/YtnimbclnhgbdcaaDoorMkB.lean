/-
  The document's Root of any list.
-/
import Derived.Test.YtnimbclnhgbdcaaDoorMkA
namespace Go.Proofs.YtnimbclnhgbdcaaDoor
open Go.RowKit

theorem root_val (l : List D4) (H : RootC l) (y : D4) (b o n cap : Nat) (w : World) (hr : RdL w b o l) (hn : n = l.length) (hc : l.length ≤ cap) (hm : cap ≤ maxLen) (hy : rootD l = y) :
    Calls Tryd.prog 14 #[.slice (some ⟨b, o, none⟩) n cap] w fun e w' => e = .returned (.agg #[.int .u32 y.d0, .int .u32 y.d1, .int .u32 y.d2, .int .u32 y.d3]) ∧ Below w.heap.size w w' := by
  subst hy; subst hn
  exact H (some ⟨b, o, none⟩) cap w (fun _ => ⟨b, o, rfl, hr⟩) hc hm
set_option maxHeartbeats 2000000 in
set_option maxRecDepth 100000 in
theorem root_cN (l : List D4) (h2 : 2 ≤ l.length) (hle : l.length ≤ 1000000) (hok : allD4 l) (hT : RootC (l.take (half l.length))) (hD : RootC (l.drop (half l.length))) : RootC l := by
  intro p cap w hp hc hm
  obtain ⟨b, o, rfl, hr⟩ := hp (by intro e; subst e; simp at h2)
  obtain ⟨n, hn⟩ : ∃ n, l.length = n := ⟨_, rfl⟩
  have hk1 := half_lt h2
  have hk0 := half_pos l.length
  obtain ⟨k, hk⟩ : ∃ k, half l.length = k := ⟨_, rfl⟩
  obtain ⟨x, hx⟩ : ∃ x, rootD (l.take k) = x := ⟨_, rfl⟩
  obtain ⟨z, hz⟩ : ∃ z, rootD (l.drop k) = z := ⟨_, rfl⟩
  obtain ⟨y, hy⟩ : ∃ y, pairS x z = y := ⟨_, rfl⟩
  have hxo : x.ok := by rw [← hx]; exact rootD_ok _ _ rfl (hok.take k)
  have hzo : z.ok := by rw [← hz]; exact rootD_ok _ _ rfl (hok.drop k)
  have HE : Hid (rootD l = y) := by show _ = _; rw [rootD, root_more pairS noneD l h2, hk]; show pairS (rootD _) (rootD _) = y; rw [hx, hz, hy]
  rw [hk] at hk0 hk1 hT hD
  have hlt : (l.take k).length = k := by rw [List.length_take]; omega
  have hld : (l.drop k).length = n - k := by rw [List.length_drop, hn]
  rw [hn] at hk hk1 h2 hle hc
  have HX := Lib.hid hx
  have HZ := Lib.hid hz
  have HY := Lib.hid hy
  have HK := Lib.hid hk
  have HN := Lib.hid hn
  have HLT := Lib.hid hlt
  have HLD := Lib.hid hld
  clear hx hz hy hk hlt hld
  unfold maxLen at hm
  obtain ⟨w0, hw0⟩ : ∃ w0, w.alloc (.cells #[.int .u32 0, .int .u32 0, .int .u32 0, .int .u32 0] 26) = w0 := ⟨_, rfl⟩
  obtain ⟨hR, hB⟩ := start4 w w0 hw0
  have hr0 := hr.on hB
  clear hr
  rw [hn]
  clear hn
  go_enter Tryd.func14, Tryd.ntmps14
  go_wp2_with fail
  clear hw0
  refine (half_val n k w0 hle HK.out).mono ?_
  rintro e w1 ⟨rfl, rfl⟩
  go_wp2_with fail
  have hrd : RdL w0.drew b o l := hr0
  have hRd : Arr .u32 26 w.heap.size [0, 0, 0, 0] w0.drew := hR
  have hBd : Below w.heap.size w w0.drew := hB.drew
  clear hr0 hR hB
  have hki : (k : Int) ≤ (n : Int) := by omega
  have hkc : (k : Int) ≤ (cap : Int) := by omega
  have hk00 : (0 : Int) ≤ (k : Int) := by omega
  have hnc : (n : Int) ≤ (cap : Int) := by omega
  have hck : cap ≠ k := by omega
  have hcm : cap ≤ maxLen := hm
  have hcm2 : cap - k ≤ maxLen := by unfold maxLen; omega
  have hc1 : (l.take k).length ≤ cap := by rw [HLT.out]; omega
  have hc2 : (l.drop k).length ≤ cap - k := by rw [HLD.out]; omega
  have hr1 := hrd.take k
  go_region_held3 (fun _ => True)
    (trivial)
    (first
      | (go_at_call 14; (with_reducible refine (root_val _ hT x b o k cap _ hr1 HLT.out.symm hc1 hcm HX.out).mono ?_); rintro e w1 ⟨rfl, hA1⟩; have hR1 := hRd.on hA1; have hB1 := hBd.trans (hA1.mono hBd.size); have hr2 := (hrd.on hA1).drop k)
      | (go_at_call 14; (with_reducible refine (root_val _ hD z b (o + k * 4) (n - k) (cap - k) _ hr2 HLD.out.symm hc2 hcm2 HZ.out).mono ?_); rintro e w2 ⟨rfl, hA2⟩; have hR2 := hR1.on hA2; have hB2 := hB1.trans (hA2.mono hB1.size))
      | (go_at_call 24; (with_reducible refine (rpair_val x z y _ hxo hzo HY.out).mono ?_); rintro e w3 ⟨rfl, hA3⟩; have hR3 := hR2.on hA3; have hB3 := hB2.trans (hA3.mono hB2.size); obtain ⟨k0, k1, k2, k3⟩ := Arr.c4 (d := zeroD) hR3; obtain ⟨f0, f1, f2, f3⟩ := hR3.f4))
  have hRf := put4 (d := y) hR3 rfl
  have hBf := below_put4 hB3 (Nat.le_refl _) y
  go_wp2_with fail
  generalize (((w3.setCell ⟨w.heap.size, 0, none⟩ (.int .u32 y.d0)).setCell ⟨w.heap.size, 1, none⟩ (.int .u32 y.d1)).setCell ⟨w.heap.size, 2, none⟩ (.int .u32 y.d2)).setCell ⟨w.heap.size, 3, none⟩ (.int .u32 y.d3) = wf at *
  obtain ⟨r0, r1, r2, r3⟩ := hRf.c4
  refine bodyPost_ret (v := y.val) (by simp [results, Tryd.results14, go_sem, D4.val, r0, r1, r2, r3]) rfl ⟨by rw [HE.out], hBf⟩
theorem root_all : ∀ (n : Nat) (l : List D4), l.length = n → n ≤ 1000000 → allD4 l → RootC l := by
  intro n
  induction n using Nat.strongRecOn with
  | _ n ih =>
    intro l hn hle hok
    match l, hn, hok with
    | [], _, _ => exact root_c0
    | [a], _, _ => exact root_c1 a
    | a :: b :: r, hn, hok =>
      have h2 : 2 ≤ (a :: b :: r).length := by simp
      have hl := half_lt h2
      have hp := half_pos (a :: b :: r).length
      exact root_cN (a :: b :: r) h2 (by omega) hok
        (ih (half (a :: b :: r).length) (by omega) ((a :: b :: r).take (half (a :: b :: r).length)) (by rw [List.length_take]; omega) (by omega) (hok.take _))
        (ih ((a :: b :: r).length - half (a :: b :: r).length) (by omega) ((a :: b :: r).drop (half (a :: b :: r).length)) (by rw [List.length_drop]) (by omega) (hok.drop _))
theorem root_any (l : List D4) (hle : l.length ≤ 1000000) (hok : allD4 l) : RootC l := root_all l.length l rfl hle hok
end Go.Proofs.YtnimbclnhgbdcaaDoor
