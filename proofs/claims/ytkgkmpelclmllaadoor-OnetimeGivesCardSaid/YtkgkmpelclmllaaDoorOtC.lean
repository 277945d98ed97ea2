/-
  The code's chains: along, the closure that it tells, chain; a walk of the document.
-/
import Derived.Test.YtkgkmpelclmllaaDoorOtA
namespace Go.Proofs.YtkgkmpelclmllaaDoor
open Go.RowKit

theorem cpair_val (a b y : D4) (w : World) (ha : a.ok) (hb : b.ok) (hT : TurnsOk w) (hy : pairS a b = y) : Calls Tryd.prog 35 #[.agg #[.int .u32 a.d0, .int .u32 a.d1, .int .u32 a.d2, .int .u32 a.d3], .agg #[.int .u32 b.d0, .int .u32 b.d1, .int .u32 b.d2, .int .u32 b.d3]] w fun e w' => e = .returned (.agg #[.int .u32 y.d0, .int .u32 y.d1, .int .u32 y.d2, .int .u32 y.d3]) ∧ Below w.heap.size w w' := by
  subst hy; exact cpair_any a b w ha hb hT
theorem rpair_val (a b y : D4) (w : World) (ha : a.ok) (hb : b.ok) (hy : pairS a b = y) : Calls Tryd.prog 33 #[.agg #[.int .u32 a.d0, .int .u32 a.d1, .int .u32 a.d2, .int .u32 a.d3], .agg #[.int .u32 b.d0, .int .u32 b.d1, .int .u32 b.d2, .int .u32 b.d3]] w fun e w' => e = .returned (.agg #[.int .u32 y.d0, .int .u32 y.d1, .int .u32 y.d2, .int .u32 y.d3]) ∧ Below w.heap.size w w' := by
  subst hy; exact rpair_any a b w ha hb
theorem cpair_step (a y : D4) (w : World) (ha : a.ok) (hT : TurnsOk w) (hy : pairS a oneD = y) : Calls Tryd.prog 35 #[.agg #[.int .u32 a.d0, .int .u32 a.d1, .int .u32 a.d2, .int .u32 a.d3], .agg #[.int .u32 0, .int .u32 0, .int .u32 0, .int .u32 1]] w fun e w' => e = .returned (.agg #[.int .u32 y.d0, .int .u32 y.d1, .int .u32 y.d2, .int .u32 y.d3]) ∧ Below w.heap.size w w' :=
  cpair_val a oneD y w ha oneD_ok hT hy
theorem rpair_step (a y : D4) (w : World) (ha : a.ok) (hy : pairS a oneD = y) : Calls Tryd.prog 33 #[.agg #[.int .u32 a.d0, .int .u32 a.d1, .int .u32 a.d2, .int .u32 a.d3], .agg #[.int .u32 0, .int .u32 0, .int .u32 0, .int .u32 1]] w fun e w' => e = .returned (.agg #[.int .u32 y.d0, .int .u32 y.d1, .int .u32 y.d2, .int .u32 y.d3]) ∧ Below w.heap.size w w' :=
  rpair_val a oneD y w ha oneD_ok hy

/-- What along tells: the closure, over a new block that holds the value. -/
def walker (b : Nat) : Value := .func (.func 36) #[] #[.pointer (some ⟨b, 0, none⟩)]
theorem calong_any (x : D4) (w : World) : Calls Tryd.prog 32 #[.agg #[.int .u32 x.d0, .int .u32 x.d1, .int .u32 x.d2, .int .u32 x.d3]] w fun e w' => e = .returned (walker w.heap.size) ∧ Arr .u32 24 w.heap.size x.toL w' ∧ Below w.heap.size w w' := by
  obtain ⟨w0, hw0⟩ : ∃ w0, w.alloc (.cells #[.int .u32 x.d0, .int .u32 x.d1, .int .u32 x.d2, .int .u32 x.d3] 24) = w0 := ⟨_, rfl⟩
  have hA0 : Arr .u32 24 w.heap.size x.toL w0 := by rw [← hw0]; exact heap_alloc_new w _
  have hB0 : Below w.heap.size w w0 := by rw [← hw0]; exact (Below.refl _ _).alloc (Nat.le_refl _) _
  have hmf : ∀ (fn : Fn) (first cap : Array Value) (w : World), (Instr.makeFunc fn first cap).run Tryd.prog w = .ok (.func fn first cap) w := fun _ _ _ _ => rfl
  go_enter Tryd.func32, Tryd.ntmps32
  go_wp2
  go_ret
  exact ⟨rfl, hA0, hB0⟩
theorem turns_far {w w' : World} {B : Nat} (h : TurnsOk w) (hg : 0 < B) (hB : Below B w w') : TurnsOk w' := tab_below h gTrn hg hB
set_option maxHeartbeats 2000000 in
set_option maxRecDepth 100000 in
/-- The closure: so many steps from the value in the block. -/
theorem cwalk_any (B b n : Nat) (x : D4) (w : World) (hx : x.ok) (hA : Arr .u32 24 b x.toL w) (hb : B ≤ b) (hT : TurnsOk w) (hg : 0 < B) (hn : n ≤ 1000) :
    Calls Tryd.prog 36 #[.int .i64 (n : Int), .pointer (some ⟨b, 0, none⟩)] w fun e w' => e = .returned (walkD x n).val ∧ Below B w w' := by
  have hbl := hA.lt
  obtain ⟨w0, hw0⟩ : ∃ w0, w.alloc (.cells #[.int .u32 0, .int .u32 0, .int .u32 0, .int .u32 0] 24) = w0 := ⟨_, rfl⟩
  obtain ⟨hR0, hB0⟩ := start4 w w0 hw0
  have hA0 := hA.on hB0
  have hT0 := hT.below hB0
  have hC0 : Below B w w0 := hB0.mono (by omega)
  have hs0 := hR0.lt
  clear hA hT hB0
  have HX := Lib.hid hx
  clear hx
  go_enter Tryd.func36, Tryd.ntmps36
  go_wp2_with fail
  clear hw0
  go_loopw [5] (fun i wr => ∃ k : Nat, k ≤ n ∧ i = .int .i64 (k : Int) ∧ Arr .u32 24 b (walkD x k).toL wr ∧ Arr .u32 24 w.heap.size [0, 0, 0, 0] wr ∧ TurnsOk wr ∧ Below B w wr) (fun i _ => n - (intOf i).toNat)
  case atStart => exact ⟨0, Nat.zero_le _, rfl, hA0, hR0, hT0, hC0⟩
  case round =>
    clear hA0 hR0 hT0 hC0
    obtain ⟨k, hk, rfl, hA, hR, hT, hC⟩ := hrel
    obtain ⟨y, hy⟩ : ∃ y, walkD x k = y := ⟨_, rfl⟩
    rw [hy] at hA
    obtain ⟨l0, l1, l2, l3⟩ := Arr.c4 hA
    by_cases hlt : k < n
    · have hkd : decide ((k : Int) < (n : Int)) = true := by simp; omega
      have hyo : y.ok := by rw [← hy]; exact walkD_ok HX.out k
      obtain ⟨z, hz⟩ : ∃ z, pairS y oneD = z := ⟨_, rfl⟩
      have HZ : Hid (walkD x (k + 1) = z) := by show _ = _; rw [walkD, hy, hz]
      have HZ0 := Lib.hid hz
      have HYO := Lib.hid hyo
      clear hy hz hyo
      go_wp2_with fail
      refine (cpair_step y z wr HYO.out hT HZ0.out).mono ?_
      rintro e w1 ⟨rfl, hD⟩
      have hA1 := hA.on hD
      have hR1 := hR.on hD
      have hT1 := hT.below hD
      have hC1 := hC.trans (hD.mono (by have := hA.lt; omega))
      have hbl1 := hA.lt
      clear hA hR hT hC hD l0 l1 l2 l3
      obtain ⟨k0, k1, k2, k3⟩ := Arr.c4 hA1
      obtain ⟨f0, f1, f2, f3⟩ := hA1.f4
      have hA2 := put4 (d := z) hA1 rfl
      have hR2 := far4 hR1 (show w.heap.size ≠ b by omega) z
      have hC2 := below_put4 hC1 hb z
      have hT2 := turns_far hT1 hg (below_put4 (Below.refl B w1) hb z)
      go_wp2_with fail
      generalize (((w1.setCell ⟨b, 0, none⟩ (.int .u32 z.d0)).setCell ⟨b, 1, none⟩ (.int .u32 z.d1)).setCell ⟨b, 2, none⟩ (.int .u32 z.d2)).setCell ⟨b, 3, none⟩ (.int .u32 z.d3) = w2 at *
      go_roundw
      case rel => exact ⟨k + 1, by omega, by go_num, by rw [HZ.out]; exact hA2, hR2, hT2, hC2⟩
      case measure => simp [intOf]; omega
    · have hkn : k = n := by omega
      subst hkn
      obtain ⟨b0, b1, b2, b3⟩ := Arr.c4 (d := zeroD) hR
      obtain ⟨f0, f1, f2, f3⟩ := hR.f4
      have hRf := put4 (d := y) hR rfl
      have hBf := below_put4 hC (show B ≤ w.heap.size by omega) y
      have HY := Lib.hid hy
      clear hy
      go_wp2_with fail
      generalize (((wr.setCell ⟨w.heap.size, 0, none⟩ (.int .u32 y.d0)).setCell ⟨w.heap.size, 1, none⟩ (.int .u32 y.d1)).setCell ⟨w.heap.size, 2, none⟩ (.int .u32 y.d2)).setCell ⟨w.heap.size, 3, none⟩ (.int .u32 y.d3) = wf at *
      obtain ⟨r0, r1, r2, r3⟩ := hRf.c4
      refine bodyPost_ret (v := y.val) (by simp [results, Tryd.results36, go_sem, D4.val, r0, r1, r2, r3]) rfl ⟨by rw [HY.out], hBf⟩
end Go.Proofs.YtkgkmpelclmllaaDoor
