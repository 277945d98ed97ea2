/-
  The document's Walk, Begin, Of.
-/
import Derived.Test.YtkgkmpelclmllaaDoorOtE
import Derived.Deep.RegionHeld3
namespace Go.Proofs.YtkgkmpelclmllaaDoor
open Go.RowKit

set_option maxHeartbeats 2000000 in
set_option maxRecDepth 100000 in
theorem rwalk_any (n : Nat) (m : Int) (x v : D4) (w : World) (hx : x.ok) (hn : n ≤ 1000) (hm : (n : Int) = m) (hv : walkD x n = v) :
    Calls Tryd.prog 24 #[.agg #[.int .u32 x.d0, .int .u32 x.d1, .int .u32 x.d2, .int .u32 x.d3], .int .i64 m] w fun e w' => e = .returned (.agg #[.int .u32 v.d0, .int .u32 v.d1, .int .u32 v.d2, .int .u32 v.d3]) ∧ Below w.heap.size w w' := by
  subst hm
  have HV := Lib.hid hv
  have HX := Lib.hid hx
  obtain ⟨w0, hw0⟩ : ∃ w0, (w.alloc (.cells #[.int .u32 x.d0, .int .u32 x.d1, .int .u32 x.d2, .int .u32 x.d3] 24)).alloc (.cells #[.int .u32 0, .int .u32 0, .int .u32 0, .int .u32 0] 24) = w0 := ⟨_, rfl⟩
  obtain ⟨hA0, hR0, hB0⟩ := start46 x w w0 hw0
  clear hx hv
  go_enter Tryd.func24, Tryd.ntmps24
  go_wp2_with fail
  clear hw0
  go_loopw [5] (fun i wr => ∃ k : Nat, k ≤ n ∧ i = .int .i64 (k : Int) ∧ Arr .u32 24 w.heap.size (walkD x k).toL wr ∧ Arr .u32 24 (w.heap.size + 1) [0, 0, 0, 0] wr ∧ Below w.heap.size w wr) (fun i _ => n - (intOf i).toNat)
  case atStart => exact ⟨0, Nat.zero_le _, rfl, hA0, hR0, hB0⟩
  case round =>
    clear hA0 hR0 hB0
    obtain ⟨k, hk, rfl, hA, hR, hB⟩ := hrel
    obtain ⟨y, hy⟩ : ∃ y, walkD x k = y := ⟨_, rfl⟩
    rw [hy] at hA
    obtain ⟨l0, l1, l2, l3⟩ := Arr.c4 hA
    by_cases hlt : k < n
    · have hkd : decide ((k : Int) < (n : Int)) = true := by simp; omega
      have hyo : y.ok := by rw [← hy]; exact walkD_ok HX.out k
      obtain ⟨z, hz⟩ : ∃ z, pairS y oneD = z := ⟨_, rfl⟩
      have HZ : Hid (walkD x (k + 1) = z) := by show _ = _; rw [walkD, hy, hz]
      have HZ0 := Lib.hid hz
      have HYO := Lib.hid hyo
      clear hy hz hyo
      go_wp2_with fail
      refine (rpair_step y z wr HYO.out HZ0.out).mono ?_
      rintro e w1 ⟨rfl, hD⟩
      have hA1 := hA.on hD
      have hR1 := hR.on hD
      have hB1 := hB.trans (hD.mono hB.size)
      clear hA hR hB hD l0 l1 l2 l3
      obtain ⟨k0, k1, k2, k3⟩ := Arr.c4 hA1
      obtain ⟨f0, f1, f2, f3⟩ := hA1.f4
      have hA2 := put4 (d := z) hA1 rfl
      have hR2 := far4 hR1 (show w.heap.size + 1 ≠ w.heap.size by omega) z
      have hB2 := below_put4 hB1 (Nat.le_refl _) z
      go_wp2_with fail
      generalize (((w1.setCell ⟨w.heap.size, 0, none⟩ (.int .u32 z.d0)).setCell ⟨w.heap.size, 1, none⟩ (.int .u32 z.d1)).setCell ⟨w.heap.size, 2, none⟩ (.int .u32 z.d2)).setCell ⟨w.heap.size, 3, none⟩ (.int .u32 z.d3) = w2 at *
      go_roundw
      case rel => exact ⟨k + 1, by omega, by go_num, by rw [HZ.out]; exact hA2, hR2, hB2⟩
      case measure => simp [intOf]; omega
    · have hkn : k = n := by omega
      subst hkn
      have HY : Hid (v = y) := by show _ = _; rw [← hy, HV.out]
      obtain ⟨b0, b1, b2, b3⟩ := Arr.c4 (d := zeroD) hR
      obtain ⟨f0, f1, f2, f3⟩ := hR.f4
      have hRf := put4 (d := y) hR rfl
      have hBf := below_put4 hB (show w.heap.size ≤ w.heap.size + 1 by omega) y
      clear hy
      go_wp2_with fail
      generalize (((wr.setCell ⟨w.heap.size + 1, 0, none⟩ (.int .u32 y.d0)).setCell ⟨w.heap.size + 1, 1, none⟩ (.int .u32 y.d1)).setCell ⟨w.heap.size + 1, 2, none⟩ (.int .u32 y.d2)).setCell ⟨w.heap.size + 1, 3, none⟩ (.int .u32 y.d3) = wf at *
      obtain ⟨r0, r1, r2, r3⟩ := hRf.c4
      refine bodyPost_ret (v := y.val) (by simp [results, Tryd.results24, go_sem, D4.val, r0, r1, r2, r3]) rfl ⟨by rw [HY.out]; rfl, hBf⟩
set_option maxHeartbeats 2000000 in
set_option maxRecDepth 100000 in
theorem rbegin_any (seed z : D4) (i : Nat) (w : World) (hs : seed.ok) (hi : i ≤ 1000) (hz : beginD seed i = z) :
    Calls Tryd.prog 30 #[.agg #[.int .u32 seed.d0, .int .u32 seed.d1, .int .u32 seed.d2, .int .u32 seed.d3], .int .i64 (i : Int)] w fun e w' => e = .returned (.agg #[.int .u32 z.d0, .int .u32 z.d1, .int .u32 z.d2, .int .u32 z.d3]) ∧ Below w.heap.size w w' := by
  obtain ⟨w0, hw0⟩ : ∃ w0, (w.alloc (.cells #[.int .u32 seed.d0, .int .u32 seed.d1, .int .u32 seed.d2, .int .u32 seed.d3] 24)).alloc (.cells #[.int .u32 0, .int .u32 0, .int .u32 0, .int .u32 0] 24) = w0 := ⟨_, rfl⟩
  obtain ⟨hA0, hR0, hB0⟩ := start46 seed w w0 hw0
  have hwr := wrap_idx i hi
  have HZ : Hid (pairS seed (idxD i) = z) := hz
  obtain ⟨l0, l1, l2, l3⟩ := Arr.c4 hA0
  clear hz
  go_enter Tryd.func30, Tryd.ntmps30
  go_wp2_with fail
  clear hw0
  refine (rpair_val seed (idxD i) z w0 hs (idxD_ok (by omega)) HZ.out).mono ?_
  rintro e w1 ⟨rfl, hD⟩
  have hR1 := hR0.on hD
  have hB1 := hB0.trans (hD.mono hB0.size)
  obtain ⟨b0, b1, b2, b3⟩ := Arr.c4 (d := zeroD) hR1
  obtain ⟨f0, f1, f2, f3⟩ := hR1.f4
  have hRf := put4 (d := z) hR1 rfl
  have hBf := below_put4 hB1 (show w.heap.size ≤ w.heap.size + 1 by omega) z
  clear hA0 hR0 hB0 hD l0 l1 l2 l3
  go_wp2_with fail
  generalize (((w1.setCell ⟨w.heap.size + 1, 0, none⟩ (.int .u32 z.d0)).setCell ⟨w.heap.size + 1, 1, none⟩ (.int .u32 z.d1)).setCell ⟨w.heap.size + 1, 2, none⟩ (.int .u32 z.d2)).setCell ⟨w.heap.size + 1, 3, none⟩ (.int .u32 z.d3) = wf at *
  obtain ⟨r0, r1, r2, r3⟩ := hRf.c4
  refine bodyPost_ret (v := z.val) (by simp [results, Tryd.results30, go_sem, D4.val, r0, r1, r2, r3]) rfl ⟨rfl, hBf⟩
end Go.Proofs.YtkgkmpelclmllaaDoor
