/-
  The code's Clash (written by gen_clash2.py).
-/
import Derived.Test.YtnimbclnhgbdcaaDoorMkZF
import Derived.Test.YtnimbclnhgbdcaaDoorMkZS
import Derived.Test.YtnimbclnhgbdcaaDoorMkH
namespace Go.Proofs.YtnimbclnhgbdcaaDoor
open Go.RowKit

theorem cc_all : ∀ (n : Nat) (a b : List D4), a.length = n → a.length = b.length → a ≠ b → rootD a = rootD b → n ≤ 1000000 → allD4 a → allD4 b → CC a b := by
  intro n
  induction n using Nat.strongRecOn with
  | _ n ih =>
    intro a b hn h1 hne hrt hle hao hbo
    have h2 := clash_two pairS noneD h1 hne hrt
    have hl := half_lt h2
    have hp := half_pos a.length
    by_cases h4 : rootD (a.take (half a.length)) = rootD (b.take (half b.length)) ∧ rootD (a.drop (half a.length)) = rootD (b.drop (half b.length))
    · have h4' := h4
      rw [← h1] at h4'
      by_cases h5 : a.take (half a.length) = b.take (half a.length)
      · exact cc_second a b h1 hne hrt (by omega) hao hbo h4 h5 (ih (a.length - half a.length) (by omega) _ _ (by rw [List.length_drop]) (by rw [List.length_drop, List.length_drop, h1]) (drop_ne hne h5) h4'.2 (by omega) (hao.drop _) (hbo.drop _))
      · exact cc_first a b h1 hne hrt (by omega) hao hbo h4 h5 (ih (half a.length) (by omega) _ _ (by rw [List.length_take]; omega) (by rw [List.length_take, List.length_take, h1]) h5 h4'.1 (by omega) (hao.take _) (hbo.take _))
    · exact cc_here a b h1 hne hrt (by omega) hao hbo h4
/-- What Clash answers. -/
def clashP (a b : List D4) : D4 × D4 := match clashD a b with | some (p, _) => p | none => (zeroD, zeroD)
def clashQ (a b : List D4) : D4 × D4 := match clashD a b with | some (_, q) => q | none => (zeroD, zeroD)
def clashOk (a b : List D4) : Bool := match clashD a b with | some _ => true | none => false
def pairV (p : D4 × D4) : Value := .agg #[.int .u32 p.1.d0, .int .u32 p.1.d1, .int .u32 p.1.d2, .int .u32 p.1.d3, .int .u32 p.2.d0, .int .u32 p.2.d1, .int .u32 p.2.d2, .int .u32 p.2.d3]
set_option maxHeartbeats 2000000 in
set_option maxRecDepth 100000 in
theorem cclash_len (a b : List D4) (pa pb : Option Addr) (na nb ca cb : Nat) (w : World) (hna : na = a.length) (hnb : nb = b.length) (h : na ≠ nb) :
    Calls Tryd.prog 22 #[.slice pa na ca, .slice pb nb cb] w fun e w' => e = .returned (.tuple #[pairV (zeroD, zeroD), pairV (zeroD, zeroD), .bool false]) ∧ Below w.heap.size w w' := by
  obtain ⟨w0, hw0⟩ : ∃ w0, (w.alloc (.cells #[.int .u32 0, .int .u32 0, .int .u32 0, .int .u32 0, .int .u32 0, .int .u32 0, .int .u32 0, .int .u32 0] 41)).alloc (.cells #[.int .u32 0, .int .u32 0, .int .u32 0, .int .u32 0, .int .u32 0, .int .u32 0, .int .u32 0, .int .u32 0] 41) = w0 := ⟨_, rfl⟩
  obtain ⟨hA, hS, hB, hsz⟩ := start88 w w0 hw0
  have hAe := hA
  have hSe := hS
  have hBe := hB
  have hne : ((na : Int) != (nb : Int)) = true := by simp; omega
  have hne2 : ((na : Int) == (nb : Int)) = false := by simp; omega
  obtain ⟨k0, k1, k2, k3, k4, k5, k6, k7⟩ := Arr.c8 (y := nilS) hA
  obtain ⟨f0, f1, f2, f3, f4, f5, f6, f7⟩ := Arr.f8 hA
  obtain ⟨m0, m1, m2, m3, m4, m5, m6, m7⟩ := Arr.c8 (y := nilS) hS
  obtain ⟨e0, e1, e2, e3, e4, e5, e6, e7⟩ := Arr.f8 hS
  go_enter Tryd.func22, Tryd.ntmps22
  go_wp2_with fail
  clear hw0
  change bodyPost _ _ _ _ _ ((((((((((((((((w0.setCell ⟨w.heap.size, 0, none⟩ (.int .u32 zeroD.d0)).setCell ⟨w.heap.size, 1, none⟩ (.int .u32 zeroD.d1)).setCell ⟨w.heap.size, 2, none⟩ (.int .u32 zeroD.d2)).setCell ⟨w.heap.size, 3, none⟩ (.int .u32 zeroD.d3)).setCell ⟨w.heap.size, 4, none⟩ (.int .u32 zeroD.d0)).setCell ⟨w.heap.size, 5, none⟩ (.int .u32 zeroD.d1)).setCell ⟨w.heap.size, 6, none⟩ (.int .u32 zeroD.d2)).setCell ⟨w.heap.size, 7, none⟩ (.int .u32 zeroD.d3)).setCell ⟨w.heap.size + 1, 0, none⟩ (.int .u32 zeroD.d0)).setCell ⟨w.heap.size + 1, 1, none⟩ (.int .u32 zeroD.d1)).setCell ⟨w.heap.size + 1, 2, none⟩ (.int .u32 zeroD.d2)).setCell ⟨w.heap.size + 1, 3, none⟩ (.int .u32 zeroD.d3)).setCell ⟨w.heap.size + 1, 4, none⟩ (.int .u32 zeroD.d0)).setCell ⟨w.heap.size + 1, 5, none⟩ (.int .u32 zeroD.d1)).setCell ⟨w.heap.size + 1, 6, none⟩ (.int .u32 zeroD.d2)).setCell ⟨w.heap.size + 1, 7, none⟩ (.int .u32 zeroD.d3))
  generalize hwf : ((((((((((((((((w0.setCell ⟨w.heap.size, 0, none⟩ (.int .u32 zeroD.d0)).setCell ⟨w.heap.size, 1, none⟩ (.int .u32 zeroD.d1)).setCell ⟨w.heap.size, 2, none⟩ (.int .u32 zeroD.d2)).setCell ⟨w.heap.size, 3, none⟩ (.int .u32 zeroD.d3)).setCell ⟨w.heap.size, 4, none⟩ (.int .u32 zeroD.d0)).setCell ⟨w.heap.size, 5, none⟩ (.int .u32 zeroD.d1)).setCell ⟨w.heap.size, 6, none⟩ (.int .u32 zeroD.d2)).setCell ⟨w.heap.size, 7, none⟩ (.int .u32 zeroD.d3)).setCell ⟨w.heap.size + 1, 0, none⟩ (.int .u32 zeroD.d0)).setCell ⟨w.heap.size + 1, 1, none⟩ (.int .u32 zeroD.d1)).setCell ⟨w.heap.size + 1, 2, none⟩ (.int .u32 zeroD.d2)).setCell ⟨w.heap.size + 1, 3, none⟩ (.int .u32 zeroD.d3)).setCell ⟨w.heap.size + 1, 4, none⟩ (.int .u32 zeroD.d0)).setCell ⟨w.heap.size + 1, 5, none⟩ (.int .u32 zeroD.d1)).setCell ⟨w.heap.size + 1, 6, none⟩ (.int .u32 zeroD.d2)).setCell ⟨w.heap.size + 1, 7, none⟩ (.int .u32 zeroD.d3)) = wf at *
  have hf1 : Arr .u32 41 w.heap.size (both8 zeroD zeroD).toL wf := by rw [← hwf]; exact (fin88 hAe rfl hSe rfl).1
  have hf2 : Arr .u32 41 (w.heap.size + 1) (both8 zeroD zeroD).toL wf := by rw [← hwf]; exact (fin88 hAe rfl hSe rfl).2
  have hBf : Below w.heap.size w wf := by rw [← hwf]; exact below_put88 hBe (Nat.le_refl _) zeroD zeroD zeroD zeroD
  have X8 := Arr.c8 hf1
  have Y8 := Arr.c8 hf2
  simp only [both8] at X8 Y8
  obtain ⟨x0, x1, x2, x3, x4, x5, x6, x7⟩ := X8
  obtain ⟨y0, y1, y2, y3, y4, y5, y6, y7⟩ := Y8
  refine bodyPost_ret (v := .tuple #[pairV (zeroD, zeroD), pairV (zeroD, zeroD), .bool false]) (by simp [results, Tryd.results22, go_sem, pairV, x0, x1, x2, x3, x4, x5, x6, x7, y0, y1, y2, y3, y4, y5, y6, y7]) rfl ⟨rfl, hBf⟩
set_option maxHeartbeats 2000000 in
set_option maxRecDepth 100000 in
theorem cclash_same (a b : List D4) (pa pb : Option Addr) (na nb ca cb : Nat) (w : World) (hna : na = a.length) (hnb : nb = b.length) (h : na = nb) (hab : a = b) (ha : RdS w pa a) (hb : RdS w pb b) (hca : na ≤ ca) (hcam : ca ≤ maxLen) (hcb : nb ≤ cb) (hcbm : cb ≤ maxLen) :
    Calls Tryd.prog 22 #[.slice pa na ca, .slice pb nb cb] w fun e w' => e = .returned (.tuple #[pairV (zeroD, zeroD), pairV (zeroD, zeroD), .bool false]) ∧ Below w.heap.size w w' := by
  obtain ⟨w0, hw0⟩ : ∃ w0, (w.alloc (.cells #[.int .u32 0, .int .u32 0, .int .u32 0, .int .u32 0, .int .u32 0, .int .u32 0, .int .u32 0, .int .u32 0] 41)).alloc (.cells #[.int .u32 0, .int .u32 0, .int .u32 0, .int .u32 0, .int .u32 0, .int .u32 0, .int .u32 0, .int .u32 0] 41) = w0 := ⟨_, rfl⟩
  obtain ⟨hA, hS, hB, hsz⟩ := start88 w w0 hw0
  subst h
  have hd : decide (a = b) = true := decide_eq_true hab
  have HD := Lib.hid hd
  have HNA := Lib.hid hna
  have HNB := Lib.hid hnb
  clear hd hab hna hnb
  go_enter Tryd.func22, Tryd.ntmps22
  go_wp2_with fail
  clear hw0
  refine (cequal_any a b pa pb na na ca cb w0 HNA.out HNB.out (ha.on hB) (hb.on hB) hca hcam hcb hcbm).mono ?_
  rintro e w1 ⟨rfl, hA1⟩
  rw [HD.out]
  have hAe := hA.on hA1
  have hSe := hS.on hA1
  have hBe := hB.trans (hA1.mono hB.size)
  obtain ⟨k0, k1, k2, k3, k4, k5, k6, k7⟩ := Arr.c8 (y := nilS) hAe
  obtain ⟨f0, f1, f2, f3, f4, f5, f6, f7⟩ := Arr.f8 hAe
  obtain ⟨m0, m1, m2, m3, m4, m5, m6, m7⟩ := Arr.c8 (y := nilS) hSe
  obtain ⟨e0, e1, e2, e3, e4, e5, e6, e7⟩ := Arr.f8 hSe
  go_wp2_with fail
  change bodyPost _ _ _ _ _ ((((((((((((((((w1.setCell ⟨w.heap.size, 0, none⟩ (.int .u32 zeroD.d0)).setCell ⟨w.heap.size, 1, none⟩ (.int .u32 zeroD.d1)).setCell ⟨w.heap.size, 2, none⟩ (.int .u32 zeroD.d2)).setCell ⟨w.heap.size, 3, none⟩ (.int .u32 zeroD.d3)).setCell ⟨w.heap.size, 4, none⟩ (.int .u32 zeroD.d0)).setCell ⟨w.heap.size, 5, none⟩ (.int .u32 zeroD.d1)).setCell ⟨w.heap.size, 6, none⟩ (.int .u32 zeroD.d2)).setCell ⟨w.heap.size, 7, none⟩ (.int .u32 zeroD.d3)).setCell ⟨w.heap.size + 1, 0, none⟩ (.int .u32 zeroD.d0)).setCell ⟨w.heap.size + 1, 1, none⟩ (.int .u32 zeroD.d1)).setCell ⟨w.heap.size + 1, 2, none⟩ (.int .u32 zeroD.d2)).setCell ⟨w.heap.size + 1, 3, none⟩ (.int .u32 zeroD.d3)).setCell ⟨w.heap.size + 1, 4, none⟩ (.int .u32 zeroD.d0)).setCell ⟨w.heap.size + 1, 5, none⟩ (.int .u32 zeroD.d1)).setCell ⟨w.heap.size + 1, 6, none⟩ (.int .u32 zeroD.d2)).setCell ⟨w.heap.size + 1, 7, none⟩ (.int .u32 zeroD.d3))
  generalize hwf : ((((((((((((((((w1.setCell ⟨w.heap.size, 0, none⟩ (.int .u32 zeroD.d0)).setCell ⟨w.heap.size, 1, none⟩ (.int .u32 zeroD.d1)).setCell ⟨w.heap.size, 2, none⟩ (.int .u32 zeroD.d2)).setCell ⟨w.heap.size, 3, none⟩ (.int .u32 zeroD.d3)).setCell ⟨w.heap.size, 4, none⟩ (.int .u32 zeroD.d0)).setCell ⟨w.heap.size, 5, none⟩ (.int .u32 zeroD.d1)).setCell ⟨w.heap.size, 6, none⟩ (.int .u32 zeroD.d2)).setCell ⟨w.heap.size, 7, none⟩ (.int .u32 zeroD.d3)).setCell ⟨w.heap.size + 1, 0, none⟩ (.int .u32 zeroD.d0)).setCell ⟨w.heap.size + 1, 1, none⟩ (.int .u32 zeroD.d1)).setCell ⟨w.heap.size + 1, 2, none⟩ (.int .u32 zeroD.d2)).setCell ⟨w.heap.size + 1, 3, none⟩ (.int .u32 zeroD.d3)).setCell ⟨w.heap.size + 1, 4, none⟩ (.int .u32 zeroD.d0)).setCell ⟨w.heap.size + 1, 5, none⟩ (.int .u32 zeroD.d1)).setCell ⟨w.heap.size + 1, 6, none⟩ (.int .u32 zeroD.d2)).setCell ⟨w.heap.size + 1, 7, none⟩ (.int .u32 zeroD.d3)) = wf at *
  have hf1 : Arr .u32 41 w.heap.size (both8 zeroD zeroD).toL wf := by rw [← hwf]; exact (fin88 hAe rfl hSe rfl).1
  have hf2 : Arr .u32 41 (w.heap.size + 1) (both8 zeroD zeroD).toL wf := by rw [← hwf]; exact (fin88 hAe rfl hSe rfl).2
  have hBf : Below w.heap.size w wf := by rw [← hwf]; exact below_put88 hBe (Nat.le_refl _) zeroD zeroD zeroD zeroD
  have X8 := Arr.c8 hf1
  have Y8 := Arr.c8 hf2
  simp only [both8] at X8 Y8
  obtain ⟨x0, x1, x2, x3, x4, x5, x6, x7⟩ := X8
  obtain ⟨y0, y1, y2, y3, y4, y5, y6, y7⟩ := Y8
  refine bodyPost_ret (v := .tuple #[pairV (zeroD, zeroD), pairV (zeroD, zeroD), .bool false]) (by simp [results, Tryd.results22, go_sem, pairV, x0, x1, x2, x3, x4, x5, x6, x7, y0, y1, y2, y3, y4, y5, y6, y7]) rfl ⟨rfl, hBf⟩
theorem croot_gen (l : List D4) (hle : l.length ≤ 1000000) (hok : allD4 l) (y : D4) (p : Option Addr) (n cap : Nat) (w : World) (hr : RdS w p l) (hn : n = l.length) (hc : n ≤ cap) (hm : cap ≤ maxLen) (hT : TurnsOk w) (hy : rootD l = y) :
    Calls Tryd.prog 11 #[.slice p n cap] w fun e w' => e = .returned (.agg #[.int .u32 y.d0, .int .u32 y.d1, .int .u32 y.d2, .int .u32 y.d3]) ∧ Below w.heap.size w w' := by
  subst hy; subst hn
  exact croot_any l hle hok p cap w hr hc hm hT
set_option maxHeartbeats 2000000 in
set_option maxRecDepth 100000 in
theorem cclash_root (a b : List D4) (pa pb : Option Addr) (na nb ca cb : Nat) (w : World) (hna : na = a.length) (hnb : nb = b.length) (h : na = nb) (hab : a ≠ b) (hrt : rootD a ≠ rootD b) (hle : a.length ≤ 1000000) (hao : allD4 a) (hbo : allD4 b) (ha : RdS w pa a) (hb : RdS w pb b) (hca : na ≤ ca) (hcam : ca ≤ maxLen) (hcb : nb ≤ cb) (hcbm : cb ≤ maxLen) (hT : TurnsOk w) :
    Calls Tryd.prog 22 #[.slice pa na ca, .slice pb nb cb] w fun e w' => e = .returned (.tuple #[pairV (zeroD, zeroD), pairV (zeroD, zeroD), .bool false]) ∧ Below w.heap.size w w' := by
  obtain ⟨w0, hw0⟩ : ∃ w0, (w.alloc (.cells #[.int .u32 0, .int .u32 0, .int .u32 0, .int .u32 0, .int .u32 0, .int .u32 0, .int .u32 0, .int .u32 0] 41)).alloc (.cells #[.int .u32 0, .int .u32 0, .int .u32 0, .int .u32 0, .int .u32 0, .int .u32 0, .int .u32 0, .int .u32 0] 41) = w0 := ⟨_, rfl⟩
  obtain ⟨hA, hS, hB, hsz⟩ := start88 w w0 hw0
  subst h
  have hd : decide (a = b) = false := decide_eq_false hab
  have HD := Lib.hid hd
  obtain ⟨x, hx⟩ : ∃ x, rootD a = x := ⟨_, rfl⟩
  obtain ⟨y, hy⟩ : ∃ y, rootD b = y := ⟨_, rfl⟩
  have hle2 : b.length ≤ 1000000 := by omega
  have HNA := Lib.hid hna
  have HNB := Lib.hid hnb
  have hs : sameD x y = false := by
    rcases q : sameD x y with _ | _
    · rfl
    · exact absurd ((sameD_iff x y).mp q) (by rw [← hx, ← hy]; exact hrt)
  have hE := eqD_run x y
  rw [hs] at hE
  have HX := Lib.hid hx
  have HY := Lib.hid hy
  clear hd hx hy hs hab hrt hna hnb
  go_enter Tryd.func22, Tryd.ntmps22
  go_wp2_with fail
  clear hw0
  refine (cequal_any a b pa pb na na ca cb w0 HNA.out HNB.out (ha.on hB) (hb.on hB) hca hcam hcb hcbm).mono ?_
  rintro e w1 ⟨rfl, hA1⟩
  rw [HD.out]
  have hB1 := hB.trans (hA1.mono hB.size)
  have hAa := hA.on hA1
  have hSa := hS.on hA1
  go_wp2_with fail
  refine (croot_gen a hle hao x pa na ca w1 (ha.on hB1) HNA.out hca hcam (hT.below hB1) HX.out).mono ?_
  rintro e w2 ⟨rfl, hA2⟩
  have hB2 := hB1.trans (hA2.mono hB1.size)
  have hAb := hAa.on hA2
  have hSb := hSa.on hA2
  go_wp2_with fail
  refine (croot_gen b hle2 hbo y pb na cb w2 (hb.on hB2) HNB.out hcb hcbm (hT.below hB2) HY.out).mono ?_
  rintro e w3 ⟨rfl, hA3⟩
  have hAe := hAb.on hA3
  have hSe := hSb.on hA3
  have hBe := hB2.trans (hA3.mono hB2.size)
  obtain ⟨k0, k1, k2, k3, k4, k5, k6, k7⟩ := Arr.c8 (y := nilS) hAe
  obtain ⟨f0, f1, f2, f3, f4, f5, f6, f7⟩ := Arr.f8 hAe
  obtain ⟨m0, m1, m2, m3, m4, m5, m6, m7⟩ := Arr.c8 (y := nilS) hSe
  obtain ⟨e0, e1, e2, e3, e4, e5, e6, e7⟩ := Arr.f8 hSe
  clear hA hS hB hAa hSa hB1 hAb hSb hB2
  go_wp2_with fail
  change bodyPost _ _ _ _ _ ((((((((((((((((w3.setCell ⟨w.heap.size, 0, none⟩ (.int .u32 zeroD.d0)).setCell ⟨w.heap.size, 1, none⟩ (.int .u32 zeroD.d1)).setCell ⟨w.heap.size, 2, none⟩ (.int .u32 zeroD.d2)).setCell ⟨w.heap.size, 3, none⟩ (.int .u32 zeroD.d3)).setCell ⟨w.heap.size, 4, none⟩ (.int .u32 zeroD.d0)).setCell ⟨w.heap.size, 5, none⟩ (.int .u32 zeroD.d1)).setCell ⟨w.heap.size, 6, none⟩ (.int .u32 zeroD.d2)).setCell ⟨w.heap.size, 7, none⟩ (.int .u32 zeroD.d3)).setCell ⟨w.heap.size + 1, 0, none⟩ (.int .u32 zeroD.d0)).setCell ⟨w.heap.size + 1, 1, none⟩ (.int .u32 zeroD.d1)).setCell ⟨w.heap.size + 1, 2, none⟩ (.int .u32 zeroD.d2)).setCell ⟨w.heap.size + 1, 3, none⟩ (.int .u32 zeroD.d3)).setCell ⟨w.heap.size + 1, 4, none⟩ (.int .u32 zeroD.d0)).setCell ⟨w.heap.size + 1, 5, none⟩ (.int .u32 zeroD.d1)).setCell ⟨w.heap.size + 1, 6, none⟩ (.int .u32 zeroD.d2)).setCell ⟨w.heap.size + 1, 7, none⟩ (.int .u32 zeroD.d3))
  generalize hwf : ((((((((((((((((w3.setCell ⟨w.heap.size, 0, none⟩ (.int .u32 zeroD.d0)).setCell ⟨w.heap.size, 1, none⟩ (.int .u32 zeroD.d1)).setCell ⟨w.heap.size, 2, none⟩ (.int .u32 zeroD.d2)).setCell ⟨w.heap.size, 3, none⟩ (.int .u32 zeroD.d3)).setCell ⟨w.heap.size, 4, none⟩ (.int .u32 zeroD.d0)).setCell ⟨w.heap.size, 5, none⟩ (.int .u32 zeroD.d1)).setCell ⟨w.heap.size, 6, none⟩ (.int .u32 zeroD.d2)).setCell ⟨w.heap.size, 7, none⟩ (.int .u32 zeroD.d3)).setCell ⟨w.heap.size + 1, 0, none⟩ (.int .u32 zeroD.d0)).setCell ⟨w.heap.size + 1, 1, none⟩ (.int .u32 zeroD.d1)).setCell ⟨w.heap.size + 1, 2, none⟩ (.int .u32 zeroD.d2)).setCell ⟨w.heap.size + 1, 3, none⟩ (.int .u32 zeroD.d3)).setCell ⟨w.heap.size + 1, 4, none⟩ (.int .u32 zeroD.d0)).setCell ⟨w.heap.size + 1, 5, none⟩ (.int .u32 zeroD.d1)).setCell ⟨w.heap.size + 1, 6, none⟩ (.int .u32 zeroD.d2)).setCell ⟨w.heap.size + 1, 7, none⟩ (.int .u32 zeroD.d3)) = wf at *
  have hf1 : Arr .u32 41 w.heap.size (both8 zeroD zeroD).toL wf := by rw [← hwf]; exact (fin88 hAe rfl hSe rfl).1
  have hf2 : Arr .u32 41 (w.heap.size + 1) (both8 zeroD zeroD).toL wf := by rw [← hwf]; exact (fin88 hAe rfl hSe rfl).2
  have hBf : Below w.heap.size w wf := by rw [← hwf]; exact below_put88 hBe (Nat.le_refl _) zeroD zeroD zeroD zeroD
  have X8 := Arr.c8 hf1
  have Y8 := Arr.c8 hf2
  simp only [both8] at X8 Y8
  obtain ⟨x0, x1, x2, x3, x4, x5, x6, x7⟩ := X8
  obtain ⟨y0, y1, y2, y3, y4, y5, y6, y7⟩ := Y8
  refine bodyPost_ret (v := .tuple #[pairV (zeroD, zeroD), pairV (zeroD, zeroD), .bool false]) (by simp [results, Tryd.results22, go_sem, pairV, x0, x1, x2, x3, x4, x5, x6, x7, y0, y1, y2, y3, y4, y5, y6, y7]) rfl ⟨rfl, hBf⟩
set_option maxHeartbeats 4000000 in
set_option maxRecDepth 100000 in
theorem cclash_yes (a b : List D4) (p q : D4 × D4) (pa pb : Option Addr) (na nb ca cb : Nat) (w : World) (hna : na = a.length) (hnb : nb = b.length) (h : na = nb) (hab : a ≠ b) (hrt : rootD a = rootD b) (hcl : clashD a b = some (p, q)) (hle : a.length ≤ 1000000) (hao : allD4 a) (hbo : allD4 b) (ha : RdS w pa a) (hb : RdS w pb b) (hca : na ≤ ca) (hcam : ca ≤ maxLen) (hcb : nb ≤ cb) (hcbm : cb ≤ maxLen) (hT : TurnsOk w) :
    Calls Tryd.prog 22 #[.slice pa na ca, .slice pb nb cb] w fun e w' => e = .returned (.tuple #[pairV p, pairV q, .bool true]) ∧ Below w.heap.size w w' := by
  obtain ⟨w0, hw0⟩ : ∃ w0, (w.alloc (.cells #[.int .u32 0, .int .u32 0, .int .u32 0, .int .u32 0, .int .u32 0, .int .u32 0, .int .u32 0, .int .u32 0] 41)).alloc (.cells #[.int .u32 0, .int .u32 0, .int .u32 0, .int .u32 0, .int .u32 0, .int .u32 0, .int .u32 0, .int .u32 0] 41) = w0 := ⟨_, rfl⟩
  obtain ⟨hA, hS, hB, hsz⟩ := start88 w w0 hw0
  subst h
  have hd : decide (a = b) = false := decide_eq_false hab
  have HD := Lib.hid hd
  obtain ⟨x, hx⟩ : ∃ x, rootD a = x := ⟨_, rfl⟩
  obtain ⟨y, hy⟩ : ∃ y, rootD b = y := ⟨_, rfl⟩
  have hle2 : b.length ≤ 1000000 := by omega
  have HNA := Lib.hid hna
  have HNB := Lib.hid hnb
  have hE := eqD_run x y
  rw [(sameD_iff x y).mpr (by rw [← hx, ← hy]; exact hrt)] at hE
  have HX := Lib.hid hx
  have HY := Lib.hid hy
  have hlen : a.length = b.length := by omega
  have h2 := clash_two pairS noneD hlen hab hrt
  have HC := cc_all a.length a b rfl hlen hab hrt hle hao hbo
  obtain ⟨ba, oa, rfl, hra⟩ := ha (by intro e; rw [e] at h2; simp at h2)
  obtain ⟨bb, ob, rfl, hrb⟩ := hb (by intro e; rw [e] at hlen; simp only [List.length_nil] at hlen; omega)
  have HCL := Lib.hid hcl
  clear hd hx hy hab hrt hna hnb hcl hlen
  go_enter Tryd.func22, Tryd.ntmps22
  go_wp2_with fail
  clear hw0
  refine (cequal_any a b _ _ na na ca cb w0 HNA.out HNB.out (ha.on hB) (hb.on hB) hca hcam hcb hcbm).mono ?_
  rintro e w1 ⟨rfl, hA1⟩
  rw [HD.out]
  have hB1 := hB.trans (hA1.mono hB.size)
  have hAa := hA.on hA1
  have hSa := hS.on hA1
  go_wp2_with fail
  refine (croot_gen a hle hao x _ na ca w1 (ha.on hB1) HNA.out hca hcam (hT.below hB1) HX.out).mono ?_
  rintro e w2 ⟨rfl, hA2⟩
  have hB2 := hB1.trans (hA2.mono hB1.size)
  have hAb := hAa.on hA2
  have hSb := hSa.on hA2
  go_wp2_with fail
  refine (croot_gen b hle2 hbo y _ na cb w2 (hb.on hB2) HNB.out hcb hcbm (hT.below hB2) HY.out).mono ?_
  rintro e w3 ⟨rfl, hA3⟩
  have hAe := hAb.on hA3
  have hSe := hSb.on hA3
  have hBe := hB2.trans (hA3.mono hB2.size)
  clear hA hS hB hAa hSa hB1 hAb hSb hB2
  go_wp2_with fail
  refine (cc_val a b HC p.1 p.2 q.1 q.2 ba oa ca bb ob cb na na w3 HNA.out HNB.out HCL.out (hra.on hBe) (hrb.on hBe) (by rw [← HNA.out]; exact hca) hcam (by rw [← HNB.out]; exact hcb) hcbm (hT.below hBe)).mono ?_
  rintro e w4 ⟨rfl, hA4⟩
  have hAf := hAe.on hA4
  have hSf := hSe.on hA4
  have hBf := hBe.trans (hA4.mono hBe.size)
  clear hAe hSe hBe hA4
  have hs4 := hAf.lt
  have hs4' := hSf.lt
  go_wp2_with fail
  have hX5 : Arr .u32 41 w4.heap.size (both8 p.1 p.2).toL ((w4.alloc (.cells #[.int .u32 p.1.d0, .int .u32 p.1.d1, .int .u32 p.1.d2, .int .u32 p.1.d3, .int .u32 p.2.d0, .int .u32 p.2.d1, .int .u32 p.2.d2, .int .u32 p.2.d3] 41)).alloc (.cells #[.int .u32 q.1.d0, .int .u32 q.1.d1, .int .u32 q.1.d2, .int .u32 q.1.d3, .int .u32 q.2.d0, .int .u32 q.2.d1, .int .u32 q.2.d2, .int .u32 q.2.d3] 41)) := (al8 p.1 p.2 w4).al _
  have hY5 : Arr .u32 41 (w4.heap.size + 1) (both8 q.1 q.2).toL ((w4.alloc (.cells #[.int .u32 p.1.d0, .int .u32 p.1.d1, .int .u32 p.1.d2, .int .u32 p.1.d3, .int .u32 p.2.d0, .int .u32 p.2.d1, .int .u32 p.2.d2, .int .u32 p.2.d3] 41)).alloc (.cells #[.int .u32 q.1.d0, .int .u32 q.1.d1, .int .u32 q.1.d2, .int .u32 q.1.d3, .int .u32 q.2.d0, .int .u32 q.2.d1, .int .u32 q.2.d2, .int .u32 q.2.d3] 41)) := by
    have := al8 q.1 q.2 (w4.alloc (.cells #[.int .u32 p.1.d0, .int .u32 p.1.d1, .int .u32 p.1.d2, .int .u32 p.1.d3, .int .u32 p.2.d0, .int .u32 p.2.d1, .int .u32 p.2.d2, .int .u32 p.2.d3] 41))
    rw [show (w4.alloc (.cells #[.int .u32 p.1.d0, .int .u32 p.1.d1, .int .u32 p.1.d2, .int .u32 p.1.d3, .int .u32 p.2.d0, .int .u32 p.2.d1, .int .u32 p.2.d2, .int .u32 p.2.d3] 41)).heap.size = w4.heap.size + 1 by simp] at this
    exact this
  have hA5 := (hAf.al (.cells #[.int .u32 p.1.d0, .int .u32 p.1.d1, .int .u32 p.1.d2, .int .u32 p.1.d3, .int .u32 p.2.d0, .int .u32 p.2.d1, .int .u32 p.2.d2, .int .u32 p.2.d3] 41)).al (.cells #[.int .u32 q.1.d0, .int .u32 q.1.d1, .int .u32 q.1.d2, .int .u32 q.1.d3, .int .u32 q.2.d0, .int .u32 q.2.d1, .int .u32 q.2.d2, .int .u32 q.2.d3] 41)
  have hS5 := (hSf.al (.cells #[.int .u32 p.1.d0, .int .u32 p.1.d1, .int .u32 p.1.d2, .int .u32 p.1.d3, .int .u32 p.2.d0, .int .u32 p.2.d1, .int .u32 p.2.d2, .int .u32 p.2.d3] 41)).al (.cells #[.int .u32 q.1.d0, .int .u32 q.1.d1, .int .u32 q.1.d2, .int .u32 q.1.d3, .int .u32 q.2.d0, .int .u32 q.2.d1, .int .u32 q.2.d2, .int .u32 q.2.d3] 41)
  have hB5 := (hBf.alloc hBf.size (.cells #[.int .u32 p.1.d0, .int .u32 p.1.d1, .int .u32 p.1.d2, .int .u32 p.1.d3, .int .u32 p.2.d0, .int .u32 p.2.d1, .int .u32 p.2.d2, .int .u32 p.2.d3] 41)).alloc (by have := hBf.size; simp; omega) (.cells #[.int .u32 q.1.d0, .int .u32 q.1.d1, .int .u32 q.1.d2, .int .u32 q.1.d3, .int .u32 q.2.d0, .int .u32 q.2.d1, .int .u32 q.2.d2, .int .u32 q.2.d3] 41)
  generalize (w4.alloc (.cells #[.int .u32 p.1.d0, .int .u32 p.1.d1, .int .u32 p.1.d2, .int .u32 p.1.d3, .int .u32 p.2.d0, .int .u32 p.2.d1, .int .u32 p.2.d2, .int .u32 p.2.d3] 41)).alloc (.cells #[.int .u32 q.1.d0, .int .u32 q.1.d1, .int .u32 q.1.d2, .int .u32 q.1.d3, .int .u32 q.2.d0, .int .u32 q.2.d1, .int .u32 q.2.d2, .int .u32 q.2.d3] 41) = w5 at *
  have X8 := Arr.c8 hX5
  have Y8 := Arr.c8 hY5
  simp only [both8] at X8 Y8
  obtain ⟨x0, x1, x2, x3, x4, x5, x6, x7⟩ := X8
  obtain ⟨y0, y1, y2, y3, y4, y5, y6, y7⟩ := Y8
  obtain ⟨k0, k1, k2, k3, k4, k5, k6, k7⟩ := Arr.c8 (y := nilS) hA5
  obtain ⟨f0, f1, f2, f3, f4, f5, f6, f7⟩ := hA5.f8
  obtain ⟨m0, m1, m2, m3, m4, m5, m6, m7⟩ := Arr.c8 (y := nilS) hS5
  obtain ⟨e0, e1, e2, e3, e4, e5, e6, e7⟩ := hS5.f8
  obtain ⟨hf1, hf2⟩ := fin88 (x := p.1) (z := p.2) (u := q.1) (v := q.2) hA5 rfl hS5 rfl
  have hBg := below_put88 (b := w.heap.size) hB5 (Nat.le_refl _) p.1 p.2 q.1 q.2
  have n1 : w4.heap.size ≠ w.heap.size := by omega
  have n2 : w4.heap.size ≠ w.heap.size + 1 := by omega
  have n3 : w4.heap.size + 1 ≠ w.heap.size := by omega
  have n4 : w4.heap.size + 1 ≠ w.heap.size + 1 := by omega
  clear hX5 hY5 hA5 hS5 hB5 hAf hSf hBf hE HC
  go_region
  all_goals
    clear x0 x1 x2 x3 x4 x5 x6 x7 y0 y1 y2 y3 y4 y5 y6 y7 k0 k1 k2 k3 k4 k5 k6 k7 f0 f1 f2 f3 f4 f5 f6 f7 m0 m1 m2 m3 m4 m5 m6 m7 e0 e1 e2 e3 e4 e5 e6 e7
    go_wp2_with fail
    generalize ((((((((((((((((w5.setCell ⟨w.heap.size, 0, none⟩ (.int .u32 p.1.d0)).setCell ⟨w.heap.size, 1, none⟩ (.int .u32 p.1.d1)).setCell ⟨w.heap.size, 2, none⟩ (.int .u32 p.1.d2)).setCell ⟨w.heap.size, 3, none⟩ (.int .u32 p.1.d3)).setCell ⟨w.heap.size, 4, none⟩ (.int .u32 p.2.d0)).setCell ⟨w.heap.size, 5, none⟩ (.int .u32 p.2.d1)).setCell ⟨w.heap.size, 6, none⟩ (.int .u32 p.2.d2)).setCell ⟨w.heap.size, 7, none⟩ (.int .u32 p.2.d3)).setCell ⟨w.heap.size + 1, 0, none⟩ (.int .u32 q.1.d0)).setCell ⟨w.heap.size + 1, 1, none⟩ (.int .u32 q.1.d1)).setCell ⟨w.heap.size + 1, 2, none⟩ (.int .u32 q.1.d2)).setCell ⟨w.heap.size + 1, 3, none⟩ (.int .u32 q.1.d3)).setCell ⟨w.heap.size + 1, 4, none⟩ (.int .u32 q.2.d0)).setCell ⟨w.heap.size + 1, 5, none⟩ (.int .u32 q.2.d1)).setCell ⟨w.heap.size + 1, 6, none⟩ (.int .u32 q.2.d2)).setCell ⟨w.heap.size + 1, 7, none⟩ (.int .u32 q.2.d3)) = wf at *
    have X8 := Arr.c8 (show Arr .u32 41 w.heap.size (both8 p.1 p.2).toL wf.drew from hf1)
    have Y8 := Arr.c8 (show Arr .u32 41 (w.heap.size + 1) (both8 q.1 q.2).toL wf.drew from hf2)
    simp only [both8] at X8 Y8
    obtain ⟨x0, x1, x2, x3, x4, x5, x6, x7⟩ := X8
    obtain ⟨y0, y1, y2, y3, y4, y5, y6, y7⟩ := Y8
    refine bodyPost_ret (v := .tuple #[pairV p, pairV q, .bool true]) (by simp [results, Tryd.results22, go_sem, pairV, x0, x1, x2, x3, x4, x5, x6, x7, y0, y1, y2, y3, y4, y5, y6, y7]) rfl ⟨rfl, hBg.drew⟩
/-- The code's Clash. -/
theorem cclash_any (a b : List D4) (pa pb : Option Addr) (na nb ca cb : Nat) (w : World) (hna : na = a.length) (hnb : nb = b.length) (hle : a.length ≤ 1000000) (hao : allD4 a) (hbo : allD4 b) (ha : RdS w pa a) (hb : RdS w pb b) (hca : na ≤ ca) (hcam : ca ≤ maxLen) (hcb : nb ≤ cb) (hcbm : cb ≤ maxLen) (hT : TurnsOk w) :
    Calls Tryd.prog 22 #[.slice pa na ca, .slice pb nb cb] w fun e w' => e = .returned (.tuple #[pairV (clashP a b), pairV (clashQ a b), .bool (clashOk a b)]) ∧ Below w.heap.size w w' := by
  have none' : ∀ (h : clashD a b = none), clashP a b = (zeroD, zeroD) ∧ clashQ a b = (zeroD, zeroD) ∧ clashOk a b = false := fun h => by
    unfold clashP clashQ clashOk
    rw [h]; exact ⟨rfl, rfl, rfl⟩
  by_cases h : na = nb
  · by_cases hab : a = b
    · obtain ⟨e1, e2, e3⟩ := none' (clash_none pairS noneD (Or.inr (Or.inl hab)))
      rw [e1, e2, e3]
      exact cclash_same a b pa pb na nb ca cb w hna hnb h hab ha hb hca hcam hcb hcbm
    · by_cases hrt : rootD a = rootD b
      · obtain ⟨p, q, hc, _⟩ := clash_some pairS noneD a.length a b rfl (by omega) hab hrt
        have e : clashP a b = p ∧ clashQ a b = q ∧ clashOk a b = true := by
          unfold clashP clashQ clashOk clashD
          rw [hc]; exact ⟨rfl, rfl, rfl⟩
        rw [e.1, e.2.1, e.2.2]
        exact cclash_yes a b p q pa pb na nb ca cb w hna hnb h hab hrt hc hle hao hbo ha hb hca hcam hcb hcbm hT
      · obtain ⟨e1, e2, e3⟩ := none' (clash_none pairS noneD (Or.inr (Or.inr hrt)))
        rw [e1, e2, e3]
        exact cclash_root a b pa pb na nb ca cb w hna hnb h hab hrt hle hao hbo ha hb hca hcam hcb hcbm hT
  · obtain ⟨e1, e2, e3⟩ := none' (clash_none pairS noneD (Or.inl (by rw [← hna, ← hnb]; exact h)))
    rw [e1, e2, e3]
    exact cclash_len a b pa pb na nb ca cb w hna hnb h
end Go.Proofs.YtnimbclnhgbdcaaDoor
