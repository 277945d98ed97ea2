/-
  The document's Of.
-/
import Derived.Test.YtkgkmpelclmllaaDoorOtK
import Derived.Deep.RegionWith
namespace Go.Proofs.YtkgkmpelclmllaaDoor
open Go.RowKit

set_option maxHeartbeats 4000000 in
set_option maxRecDepth 100000 in
theorem rof_list (l : List D4) (v : D4) (p : Option Addr) (n cap : Nat) (w : World) (hl : allD4 l) (hn : l.length = n) (hn1 : n ≤ 1000) (hr : RdS w p l) (hc : n ≤ cap) (hm : cap ≤ maxLen) (hv : endsD l = v) :
    Calls Tryd.prog 31 #[.slice p n cap] w fun e w' => e = .returned (.agg #[.int .u32 v.d0, .int .u32 v.d1, .int .u32 v.d2, .int .u32 v.d3]) ∧ Below w.heap.size w w' := by
  unfold maxLen at hm
  obtain ⟨w0, hw0⟩ : ∃ w0, (w.alloc (.cells #[.int .u32 0, .int .u32 0, .int .u32 0, .int .u32 0] 24)).alloc (.cells #[.int .u32 0, .int .u32 0, .int .u32 0, .int .u32 0] 24) = w0 := ⟨_, rfl⟩
  obtain ⟨hRq, hKq, hBq⟩ := start45 zeroD w w0 hw0
  obtain ⟨k0, k1, k2, k3⟩ := Arr.c4 (d := zeroD) hKq
  obtain ⟨f0, f1, f2, f3⟩ := hKq.f4
  have hK0 := put4 (d := k35) hKq rfl
  have hR0 := far4 hRq (show w.heap.size ≠ w.heap.size + 1 by omega) k35
  have hB0 := below_put4 hBq (show w.heap.size ≤ w.heap.size + 1 by omega) k35
  simp only [k35] at hK0 hR0 hB0
  have HV := Lib.hid hv
  have HL := Lib.hid hl
  have HN := Lib.hid hn
  clear hRq hKq hBq hv hl hn
  go_enter Tryd.func31, Tryd.ntmps31
  go_wp2_with fail
  clear hw0 k0 k1 k2 k3 f0 f1 f2 f3
  generalize (((w0.setCell ⟨w.heap.size + 1, 0, none⟩ (.int .u32 35)).setCell ⟨w.heap.size + 1, 1, none⟩ (.int .u32 0)).setCell ⟨w.heap.size + 1, 2, none⟩ (.int .u32 0)).setCell ⟨w.heap.size + 1, 3, none⟩ (.int .u32 0) = wz at *
  go_loopw [4] (fun i wr => ∃ k : Nat, k ≤ n ∧ i = .int .i64 (k : Int) ∧ Arr .u32 24 (w.heap.size + 1) ((l.take k).foldl pairS k35).toL wr ∧ Arr .u32 24 w.heap.size [0, 0, 0, 0] wr ∧ Below w.heap.size w wr) (fun i _ => n - (intOf i).toNat)
  case atStart => exact ⟨0, Nat.zero_le _, rfl, hK0, hR0, hB0⟩
  case round =>
    clear hK0 hR0 hB0
    obtain ⟨k, hk, rfl, hK, hR, hB⟩ := hrel
    obtain ⟨y, hy⟩ : ∃ y, (l.take k).foldl pairS k35 = y := ⟨_, rfl⟩
    rw [hy] at hK
    by_cases hlt : k < n
    · have hkd : decide ((k : Int) < (n : Int)) = true := by simp; omega
      have hkl : k < l.length := by have := HN.out; omega
      have hk0 : (0 : Int) ≤ (k : Int) := by omega
      have hk1 : (k : Int) < (n : Int) := by omega
      have hyo : y.ok := by rw [← hy]; exact foldl_ok _ _ k35_ok (HL.out.take k)
      obtain ⟨b, o, rfl, hrd⟩ := hr (by intro e; subst e; simp at hkl)
      obtain ⟨c0, c1, c2, c3⟩ := (hrd.thr hB hrd.1 hB.size).2 k hkl
      obtain ⟨x, hx⟩ : ∃ x, l.getD k zeroD = x := ⟨_, rfl⟩
      have hxo : x.ok := by rw [← hx]; exact getD_ok HL.out k
      obtain ⟨z, hz⟩ : ∃ z, pairS y x = z := ⟨_, rfl⟩
      have HZ : Hid ((l.take (k + 1)).foldl pairS k35 = z) := by show _ = _; rw [fold_next l _ k hkl, hy, hx, hz]
      have HZ0 := Lib.hid hz
      rw [hx] at c0 c1 c2 c3
      have HYO := Lib.hid hyo
      have HXO := Lib.hid hxo
      obtain ⟨l0, l1, l2, l3⟩ := Arr.c4 hK
      clear hy hz hyo hx hxo
      go_wp2_with fail
      go_region_with (go_at_call 33; refine (rpair_val y x z _ HYO.out HXO.out HZ0.out).mono ?_; rintro e w3 ⟨rfl, hD⟩; have hK3 := (show Arr .u32 24 (w.heap.size + 1) y.toL wr.drew from hK).on hD; obtain ⟨k0, k1, k2, k3⟩ := Arr.c4 hK3; obtain ⟨f0, f1, f2, f3⟩ := hK3.f4)
      all_goals
        have hB3 := hB.drew.trans (hD.mono hB.size)
        have hR3 := (show Arr .u32 24 w.heap.size [0, 0, 0, 0] wr.drew from hR).on hD
        have hK4 := put4 (d := z) hK3 rfl
        have hR4 := far4 hR3 (show w.heap.size ≠ w.heap.size + 1 by omega) z
        have hB4 := below_put4 hB3 (show w.heap.size ≤ w.heap.size + 1 by omega) z
        generalize (((w3.setCell ⟨w.heap.size + 1, 0, none⟩ (.int .u32 z.d0)).setCell ⟨w.heap.size + 1, 1, none⟩ (.int .u32 z.d1)).setCell ⟨w.heap.size + 1, 2, none⟩ (.int .u32 z.d2)).setCell ⟨w.heap.size + 1, 3, none⟩ (.int .u32 z.d3) = w4 at *
        clear hK hR hB hD hK3 hR3 hB3 k0 k1 k2 k3 f0 f1 f2 f3 l0 l1 l2 l3 c0 c1 c2 c3
        go_wp2_with fail
        go_roundw
        case rel => exact ⟨k + 1, by omega, by go_num, by rw [HZ.out]; exact hK4, hR4, hB4⟩
        case measure => simp [intOf]; omega
    · have hkn : k = n := by omega
      subst hkn
      have HY : Hid (v = y) := by
        show _ = _
        rw [← hy, List.take_of_length_le (by have := HN.out; omega), ← HV.out, endsD]
      clear hy
      obtain ⟨l0, l1, l2, l3⟩ := Arr.c4 hK
      obtain ⟨b0, b1, b2, b3⟩ := Arr.c4 (d := zeroD) hR
      obtain ⟨f0, f1, f2, f3⟩ := hR.f4
      have hRf := put4 (d := y) hR rfl
      have hBf := below_put4 hB (Nat.le_refl _) y
      go_wp2_with fail
      generalize (((wr.setCell ⟨w.heap.size, 0, none⟩ (.int .u32 y.d0)).setCell ⟨w.heap.size, 1, none⟩ (.int .u32 y.d1)).setCell ⟨w.heap.size, 2, none⟩ (.int .u32 y.d2)).setCell ⟨w.heap.size, 3, none⟩ (.int .u32 y.d3) = wf at *
      obtain ⟨r0, r1, r2, r3⟩ := hRf.c4
      refine bodyPost_ret (v := y.val) (by simp [results, Tryd.results31, go_sem, D4.val, r0, r1, r2, r3]) rfl ⟨by rw [HY.out]; rfl, hBf⟩
end Go.Proofs.YtkgkmpelclmllaaDoor
