/-
  The document's on, on the right (written by gen_on.py).
-/
import Derived.Test.YtnimbclnhgbdcaaDoorMkI
namespace Go.Proofs.YtnimbclnhgbdcaaDoor
open Go.RowKit Go.Lib

set_option maxHeartbeats 4000000 in
set_option maxRecDepth 100000 in
theorem on_cR (r : List D4) (y : D4) (H : OnC r) (x : D4) (m n : Nat) (bw : Bool) (b o cap : Nat) (w : World) (h1 : 1 ≤ m) (hmn : m ≤ n) (hne : m ≠ n) (hle : n ≤ 1000000) (hi : ¬ m ≤ half n) (hx : x.ok) (hyo : y.ok) (hro : allD4 r) (hr : RdL w b o (r ++ [y])) (hc : r.length + 1 ≤ cap) (hm : cap ≤ maxLen) :
    Calls Tryd.prog 39 #[x.val, .int .i64 (m : Int), .int .i64 (n : Int), .bool bw, .slice (some ⟨b, o, none⟩) (r.length + 1) cap] w fun e w' => e = .returned (.tuple #[(onD x m n bw (r ++ [y])).1.val, (onD x m n bw (r ++ [y])).2.1.val, .bool (onD x m n bw (r ++ [y])).2.2]) ∧ Below w.heap.size w w' := by
  have h2 : 2 ≤ n := by omega
  have hk1 := half_lt h2
  have hk0 := half_pos n
  obtain ⟨k, hk⟩ : ∃ k, half n = k := ⟨_, rfl⟩
  have hfo := onD_ok' r (m - half n) (n - half n) x false hx hro
  obtain ⟨⟨f, z, ok⟩, hz⟩ : ∃ z, onD x (m - half n) (n - half n) false r = z := ⟨_, rfl⟩
  rw [hz] at hfo
  obtain ⟨hfo, hzo⟩ := hfo
  have hfo : f.ok := hfo
  have hzo : z.ok := hzo
  obtain ⟨u, hu⟩ : ∃ u, pairS y f = u := ⟨_, rfl⟩
  obtain ⟨v, hv⟩ : ∃ v, pairS y z = v := ⟨_, rfl⟩
  have HE : Hid (onD x m n bw (r ++ [y]) = (u, v, ok)) := by show _ = _; rw [onD, on_right pairS r y hne hi, ← hv, ← hu]; show (pairS y (onD x (m - half n) (n - half n) false r).1, pairS y (onD x (m - half n) (n - half n) false r).2.1, (onD x (m - half n) (n - half n) false r).2.2) = _; rw [hz]
  have HU := Lib.hid hu
  rw [HE.out]
  show Calls _ _ _ w fun e w' => e = .returned (.tuple #[u.val, v.val, .bool ok]) ∧ Below w.heap.size w w'
  rw [hk] at hk0 hk1 hi hz
  have HZ := Lib.hid hz
  have HV := Lib.hid hv
  have HK := Lib.hid hk
  clear hz hv hk hu
  have hn1 : ((m : Int) == (n : Int)) = false := by simp; omega
  have hdi : decide ((m : Int) ≤ (k : Int)) = false := by simp; omega
  obtain ⟨w0, hw0⟩ : ∃ w0, ((w.alloc (.cells #[.int .u32 x.d0, .int .u32 x.d1, .int .u32 x.d2, .int .u32 x.d3] 26)).alloc (.cells #[.int .u32 0, .int .u32 0, .int .u32 0, .int .u32 0] 26)).alloc (.cells #[.int .u32 0, .int .u32 0, .int .u32 0, .int .u32 0] 26) = w0 := ⟨_, rfl⟩
  obtain ⟨hL, hA, hS, hB, hsz⟩ := start4zz x w w0 hw0
  have hr0 := hr.on hB
  obtain ⟨M, hmm⟩ : ∃ M, r.length = M := ⟨_, rfl⟩
  obtain ⟨N, hN⟩ : ∃ N, M + 1 = N := ⟨_, rfl⟩
  have hcm := hm
  unfold maxLen at hm
  have hy0 := hr0.last
  rw [hmm] at hc hy0
  rw [hmm, hN]
  obtain ⟨c0, c1, c2, c3⟩ := hy0
  have hN0 : ((N : Int) == 0) = false := by simp; omega
  have hNw : IntKind.i64.wrap ((N : Int) - 1) = (M : Int) := by rw [IntWalk.i64_in _ (by omega)]; omega
  have hm0 : (0 : Int) ≤ (M : Int) := by omega
  have hmN : (M : Int) < (N : Int) := by omega
  have hmN2 : (M : Int) ≤ (N : Int) := by omega
  have hmc : (M : Int) ≤ (cap : Int) := by omega
  have hwn : IntKind.i64.wrap ((n : Int) - (k : Int)) = ((n - k : Nat) : Int) := by rw [IntWalk.i64_in _ (by omega)]; omega
  have hwi : IntKind.i64.wrap ((m : Int) - (k : Int)) = ((m - k : Nat) : Int) := by rw [IntWalk.i64_in _ (by omega)]; omega
  obtain ⟨l0, l1, l2, l3⟩ := Arr.c4 hL
  have HN := Lib.hid hN
  have HM := Lib.hid hmm
  clear hN hmm
  go_enter Tryd.func39, Tryd.ntmps39
  simp only [D4.val]
  go_wp2_with fail
  clear hw0
  have hY1 : Arr .u32 26 (w.heap.size + 1 + 1 + 1) y.toL (w0.alloc (.cells #[.int .u32 y.d0, .int .u32 y.d1, .int .u32 y.d2, .int .u32 y.d3] 26)) := by rw [← hsz]; exact heap_alloc_new w0 _
  have hAl : Below w0.heap.size w0 (w0.alloc (.cells #[.int .u32 y.d0, .int .u32 y.d1, .int .u32 y.d2, .int .u32 y.d3] 26)) := (Below.refl _ _).alloc (Nat.le_refl _) _
  generalize w0.alloc (.cells #[.int .u32 y.d0, .int .u32 y.d1, .int .u32 y.d2, .int .u32 y.d3] 26) = w1 at *
  have hL1 := hL.on hAl
  have hA1 := hA.on hAl
  have hS1 := hS.on hAl
  have hr1 := (hr0.on hAl).init
  have hB1 := hB.trans (hAl.mono hB.size)
  clear l0 l1 l2 l3 c0 c1 c2 c3 hL hA hS hB hr0 hr hAl hsz
  obtain ⟨l0, l1, l2, l3⟩ := Arr.c4 hL1
  refine (half_val n k w1 hle HK.out).mono ?_
  rintro e w1 ⟨rfl, rfl⟩
  go_wp2_with fail
  refine (on_val r H x f z ok (m - k) (n - k) false b o M cap _ _ w1 rfl rfl (by omega) (by omega) (by omega) hx hr1 HM.out.symm (by rw [HM.out]; omega) hcm HZ.out).mono ?_
  rintro e w2 ⟨rfl, hA2⟩
  have hY2 := hY1.on hA2
  have hA3 := hA1.on hA2
  have hS2 := hS1.on hA2
  have hB2 := hB1.trans (hA2.mono hB1.size)
  clear l0 l1 l2 l3 hL1 hA1 hS1 hB1 hA2 hr1 hY1
  have hylt := hY2.lt
  go_wp2_with fail
  have hF : Arr .u32 26 w2.heap.size f.toL ((w2.alloc (.cells #[.int .u32 f.d0, .int .u32 f.d1, .int .u32 f.d2, .int .u32 f.d3] 26)).alloc (.cells #[.int .u32 z.d0, .int .u32 z.d1, .int .u32 z.d2, .int .u32 z.d3] 26)) := Arr.al (heap_alloc_new w2 _) _
  have hG : Arr .u32 26 (w2.heap.size + 1) z.toL ((w2.alloc (.cells #[.int .u32 f.d0, .int .u32 f.d1, .int .u32 f.d2, .int .u32 f.d3] 26)).alloc (.cells #[.int .u32 z.d0, .int .u32 z.d1, .int .u32 z.d2, .int .u32 z.d3] 26)) := by
    have := heap_alloc_new (w2.alloc (.cells #[.int .u32 f.d0, .int .u32 f.d1, .int .u32 f.d2, .int .u32 f.d3] 26)) (.cells #[.int .u32 z.d0, .int .u32 z.d1, .int .u32 z.d2, .int .u32 z.d3] 26)
    rw [show (w2.alloc (.cells #[.int .u32 f.d0, .int .u32 f.d1, .int .u32 f.d2, .int .u32 f.d3] 26)).heap.size = w2.heap.size + 1 by simp] at this
    exact this
  have hY := (hY2.al (.cells #[.int .u32 f.d0, .int .u32 f.d1, .int .u32 f.d2, .int .u32 f.d3] 26)).al (.cells #[.int .u32 z.d0, .int .u32 z.d1, .int .u32 z.d2, .int .u32 z.d3] 26)
  have hA4 := (hA3.al (.cells #[.int .u32 f.d0, .int .u32 f.d1, .int .u32 f.d2, .int .u32 f.d3] 26)).al (.cells #[.int .u32 z.d0, .int .u32 z.d1, .int .u32 z.d2, .int .u32 z.d3] 26)
  have hS4 := (hS2.al (.cells #[.int .u32 f.d0, .int .u32 f.d1, .int .u32 f.d2, .int .u32 f.d3] 26)).al (.cells #[.int .u32 z.d0, .int .u32 z.d1, .int .u32 z.d2, .int .u32 z.d3] 26)
  have hB4 := (hB2.alloc hB2.size (.cells #[.int .u32 f.d0, .int .u32 f.d1, .int .u32 f.d2, .int .u32 f.d3] 26)).alloc (by have := hB2.size; simp; omega) (.cells #[.int .u32 z.d0, .int .u32 z.d1, .int .u32 z.d2, .int .u32 z.d3] 26)
  generalize (w2.alloc (.cells #[.int .u32 f.d0, .int .u32 f.d1, .int .u32 f.d2, .int .u32 f.d3] 26)).alloc (.cells #[.int .u32 z.d0, .int .u32 z.d1, .int .u32 z.d2, .int .u32 z.d3] 26) = w3 at *
  have hYd : Arr .u32 26 (w.heap.size + 1 + 1 + 1) y.toL w3.drew := hY
  have hFd : Arr .u32 26 w2.heap.size f.toL w3.drew := hF
  have hGd : Arr .u32 26 (w2.heap.size + 1) z.toL w3.drew := hG
  have hAd : Arr .u32 26 (w.heap.size + 1) [0, 0, 0, 0] w3.drew := hA4
  have hSd : Arr .u32 26 (w.heap.size + 1 + 1) [0, 0, 0, 0] w3.drew := hS4
  have hBd := hB4.drew
  have hS0 : w3.drew.cell? ⟨w.heap.size + 1 + 1 + 1, 0, none⟩ = some (.int .u32 y.d0) ∧ w3.drew.cell? ⟨w.heap.size + 1 + 1 + 1, 1, none⟩ = some (.int .u32 y.d1) ∧ w3.drew.cell? ⟨w.heap.size + 1 + 1 + 1, 2, none⟩ = some (.int .u32 y.d2) ∧ w3.drew.cell? ⟨w.heap.size + 1 + 1 + 1, 3, none⟩ = some (.int .u32 y.d3) ∧ w3.drew.cell? ⟨w2.heap.size, 0, none⟩ = some (.int .u32 f.d0) ∧ w3.drew.cell? ⟨w2.heap.size, 1, none⟩ = some (.int .u32 f.d1) ∧ w3.drew.cell? ⟨w2.heap.size, 2, none⟩ = some (.int .u32 f.d2) ∧ w3.drew.cell? ⟨w2.heap.size, 3, none⟩ = some (.int .u32 f.d3) ∧ w3.drew.cell? ⟨w2.heap.size + 1, 0, none⟩ = some (.int .u32 z.d0) ∧ w3.drew.cell? ⟨w2.heap.size + 1, 1, none⟩ = some (.int .u32 z.d1) ∧ w3.drew.cell? ⟨w2.heap.size + 1, 2, none⟩ = some (.int .u32 z.d2) ∧ w3.drew.cell? ⟨w2.heap.size + 1, 3, none⟩ = some (.int .u32 z.d3) := ⟨hYd.c4.1, hYd.c4.2.1, hYd.c4.2.2.1, hYd.c4.2.2.2, hFd.c4.1, hFd.c4.2.1, hFd.c4.2.2.1, hFd.c4.2.2.2, hGd.c4.1, hGd.c4.2.1, hGd.c4.2.2.1, hGd.c4.2.2.2⟩
  have HS0 := Lib.hid hS0
  have hw2s : w.heap.size + 1 + 1 + 1 < w2.heap.size := hylt
  have n1 : w.heap.size + 1 + 1 + 1 ≠ w.heap.size + 1 := by omega
  have n2 : w2.heap.size ≠ w.heap.size + 1 := by omega
  have n3 : w2.heap.size + 1 ≠ w.heap.size + 1 := by omega
  have p1 : w.heap.size + 1 + 1 + 1 ≠ w.heap.size + 1 + 1 := by omega
  have p2 : w2.heap.size ≠ w.heap.size + 1 + 1 := by omega
  have p3 : w2.heap.size + 1 ≠ w.heap.size + 1 + 1 := by omega
  clear hS0 hY hF hG hA4 hS4 hB4 hY2 hA3 hS2 hB2 hYd hFd hGd
  go_region_held3 (fun w' => w'.cell? ⟨w.heap.size + 1 + 1 + 1, 0, none⟩ = some (.int .u32 y.d0) ∧ w'.cell? ⟨w.heap.size + 1 + 1 + 1, 1, none⟩ = some (.int .u32 y.d1) ∧ w'.cell? ⟨w.heap.size + 1 + 1 + 1, 2, none⟩ = some (.int .u32 y.d2) ∧ w'.cell? ⟨w.heap.size + 1 + 1 + 1, 3, none⟩ = some (.int .u32 y.d3) ∧ w'.cell? ⟨w2.heap.size, 0, none⟩ = some (.int .u32 f.d0) ∧ w'.cell? ⟨w2.heap.size, 1, none⟩ = some (.int .u32 f.d1) ∧ w'.cell? ⟨w2.heap.size, 2, none⟩ = some (.int .u32 f.d2) ∧ w'.cell? ⟨w2.heap.size, 3, none⟩ = some (.int .u32 f.d3) ∧ w'.cell? ⟨w2.heap.size + 1, 0, none⟩ = some (.int .u32 z.d0) ∧ w'.cell? ⟨w2.heap.size + 1, 1, none⟩ = some (.int .u32 z.d1) ∧ w'.cell? ⟨w2.heap.size + 1, 2, none⟩ = some (.int .u32 z.d2) ∧ w'.cell? ⟨w2.heap.size + 1, 3, none⟩ = some (.int .u32 z.d3))
    (first | ((with_reducible refine keep3s p1 p2 p3 ?_); assumption) | ((with_reducible refine keep3s n1 n2 n3 ?_); assumption) | ((with_reducible refine keep3b hA6 ?_); assumption) | ((with_reducible refine keep3b hA5 ?_); assumption) | (with_reducible exact HS0.out))
    (first
      | (go_at_call 24; (with_reducible refine (rpair_val y z v _ hyo hzo HV.out).mono ?_); rintro e w6 ⟨rfl, hA6⟩; have hAe := hAe5.on hA6; have hSe := hSe5.on hA6; have hBe := hBe5.trans (hA6.mono hBe5.size); obtain ⟨k0, k1, k2, k3⟩ := Arr.c4 (d := zeroD) hAe; obtain ⟨f0, f1, f2, f3⟩ := hAe.f4; obtain ⟨m0, m1, m2, m3⟩ := Arr.c4 (d := zeroD) hSe; obtain ⟨e0, e1, e2, e3⟩ := hSe.f4)
      | (go_at_call 24; (with_reducible refine (rpair_val y f u _ hyo hfo HU.out).mono ?_); rintro e w5 ⟨rfl, hA5⟩; have hAe5 := hAd.on hA5; have hSe5 := hSd.on hA5; have hBe5 := hBd.trans (hA5.mono hBd.size)))
  all_goals
    obtain ⟨hf1, hf2⟩ := fin44 (d := u) (e := v) hAe rfl hSe rfl
    have hBf := below_put44 (b := w.heap.size + 1) hBe (Nat.le_succ _) u v
    clear k0 k1 k2 k3 f0 f1 f2 f3 m0 m1 m2 m3 e0 e1 e2 e3
    go_wp2_with fail
    generalize ((((((((w6.setCell ⟨w.heap.size + 1, 0, none⟩ (.int .u32 u.d0)).setCell ⟨w.heap.size + 1, 1, none⟩ (.int .u32 u.d1)).setCell ⟨w.heap.size + 1, 2, none⟩ (.int .u32 u.d2)).setCell ⟨w.heap.size + 1, 3, none⟩ (.int .u32 u.d3)).setCell ⟨w.heap.size + 1 + 1, 0, none⟩ (.int .u32 v.d0)).setCell ⟨w.heap.size + 1 + 1, 1, none⟩ (.int .u32 v.d1)).setCell ⟨w.heap.size + 1 + 1, 2, none⟩ (.int .u32 v.d2)).setCell ⟨w.heap.size + 1 + 1, 3, none⟩ (.int .u32 v.d3)) = wf at *
    obtain ⟨r0, r1, r2, r3⟩ := hf1.c4
    obtain ⟨u0, u1, u2, u3⟩ := hf2.c4
    refine bodyPost_ret (v := .tuple #[u.val, v.val, .bool ok]) (by simp [results, Tryd.results39, go_sem, D4.val, r0, r1, r2, r3, u0, u1, u2, u3]) rfl ⟨rfl, hBf⟩
end Go.Proofs.YtnimbclnhgbdcaaDoor
