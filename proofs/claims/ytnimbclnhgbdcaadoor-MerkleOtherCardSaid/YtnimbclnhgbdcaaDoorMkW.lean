/-
  The document's Clash, where something is told: what is common (written by gen_rclash.py).
-/
import Derived.Test.YtnimbclnhgbdcaaDoorMkLA
namespace Go.Proofs.YtnimbclnhgbdcaaDoor
open Go.RowKit

theorem rdl_al {w : World} {b o : Nat} {l : List D4} (h : RdL w b o l) (ob : Obj) : RdL (w.alloc ob) b o l := h.on ((Below.refl _ w).alloc (Nat.le_refl _) ob)
theorem new8 {X w' : World} (h : Below (X.alloc (.cells #[.int .u32 0, .int .u32 0, .int .u32 0, .int .u32 0, .int .u32 0, .int .u32 0, .int .u32 0, .int .u32 0] 41)).heap.size (X.alloc (.cells #[.int .u32 0, .int .u32 0, .int .u32 0, .int .u32 0, .int .u32 0, .int .u32 0, .int .u32 0, .int .u32 0] 41)) w') : Arr .u32 41 X.heap.size nilS.toL w' := by
  unfold Arr
  rw [h.block _ (by simp)]
  exact heap_alloc_new X _
/-- What the document's Clash answers. -/
def RC (a b : List D4) : Prop := ∀ (pa pb : Option Addr) (na nb ca cb : Nat) (w : World), na = a.length → nb = b.length → RdS w pa a → RdS w pb b → na ≤ ca → ca ≤ maxLen → nb ≤ cb → cb ≤ maxLen →
  Calls Tryd.prog 23 #[.slice pa na ca, .slice pb nb cb] w fun e w' => e = .returned (.tuple #[pairV (clashP a b), pairV (clashQ a b), .bool (clashOk a b)]) ∧ Below w.heap.size w w'
theorem rc_val (a b : List D4) (H : RC a b) (p q : D4 × D4) (pa pb : Option Addr) (na nb ca cb : Nat) (w : World) (hcl : clashD a b = some (p, q)) (hna : na = a.length) (hnb : nb = b.length) (ha : RdS w pa a) (hb : RdS w pb b) (h1 : na ≤ ca) (h2 : ca ≤ maxLen) (h3 : nb ≤ cb) (h4 : cb ≤ maxLen) :
    Calls Tryd.prog 23 #[.slice pa na ca, .slice pb nb cb] w fun e w' => e = .returned (.tuple #[.agg #[.int .u32 p.1.d0, .int .u32 p.1.d1, .int .u32 p.1.d2, .int .u32 p.1.d3, .int .u32 p.2.d0, .int .u32 p.2.d1, .int .u32 p.2.d2, .int .u32 p.2.d3], .agg #[.int .u32 q.1.d0, .int .u32 q.1.d1, .int .u32 q.1.d2, .int .u32 q.1.d3, .int .u32 q.2.d0, .int .u32 q.2.d1, .int .u32 q.2.d2, .int .u32 q.2.d3], .bool true]) ∧ Below w.heap.size w w' := by
  have := H pa pb na nb ca cb w hna hnb ha hb h1 h2 h3 h4
  have e : clashP a b = p ∧ clashQ a b = q ∧ clashOk a b = true := by
    unfold clashP clashQ clashOk
    rw [hcl]; exact ⟨rfl, rfl, rfl⟩
  rw [e.1, e.2.1, e.2.2] at this
  exact this
set_option maxHeartbeats 2000000 in
set_option maxRecDepth 100000 in
theorem rclash_len (a b : List D4) (pa pb : Option Addr) (na nb ca cb : Nat) (w : World) (hna : na = a.length) (hnb : nb = b.length) (h : na ≠ nb) :
    Calls Tryd.prog 23 #[.slice pa na ca, .slice pb nb cb] w fun e w' => e = .returned (.tuple #[pairV (zeroD, zeroD), pairV (zeroD, zeroD), .bool false]) ∧ Below w.heap.size w w' := by
  obtain ⟨w0, hw0⟩ : ∃ w0, (w.alloc (.cells #[.int .u32 0, .int .u32 0, .int .u32 0, .int .u32 0, .int .u32 0, .int .u32 0, .int .u32 0, .int .u32 0] 41)).alloc (.cells #[.int .u32 0, .int .u32 0, .int .u32 0, .int .u32 0, .int .u32 0, .int .u32 0, .int .u32 0, .int .u32 0] 41) = w0 := ⟨_, rfl⟩
  obtain ⟨hA, hS, hB, hsz⟩ := start88 w w0 hw0
  have hAe := hA
  have hSe := hS
  have hBe := hB
  have hne : ((na : Int) != (nb : Int)) = true := by simp; omega
  have hne2 : ((na : Int) == (nb : Int)) = false := by simp; omega
  obtain ⟨k0, k1, k2, k3, k4, k5, k6, k7⟩ := Arr.c8 (y := nilS) hA
  obtain ⟨f0, f1, f2, f3, f4, f5, f6, f7⟩ := Arr.f8 hA
  obtain ⟨m0, m1, m2, m3, m4, m5, m6, m7⟩ := Arr.c8 (y := nilS) hS
  obtain ⟨e0, e1, e2, e3, e4, e5, e6, e7⟩ := Arr.f8 hS
  go_enter Tryd.func23, Tryd.ntmps23
  go_wp2_with fail
  clear hw0
  change bodyPost _ _ _ _ _ ((((((((((((((((w0.setCell ⟨w.heap.size, 0, none⟩ (.int .u32 zeroD.d0)).setCell ⟨w.heap.size, 1, none⟩ (.int .u32 zeroD.d1)).setCell ⟨w.heap.size, 2, none⟩ (.int .u32 zeroD.d2)).setCell ⟨w.heap.size, 3, none⟩ (.int .u32 zeroD.d3)).setCell ⟨w.heap.size, 4, none⟩ (.int .u32 zeroD.d0)).setCell ⟨w.heap.size, 5, none⟩ (.int .u32 zeroD.d1)).setCell ⟨w.heap.size, 6, none⟩ (.int .u32 zeroD.d2)).setCell ⟨w.heap.size, 7, none⟩ (.int .u32 zeroD.d3)).setCell ⟨w.heap.size + 1, 0, none⟩ (.int .u32 zeroD.d0)).setCell ⟨w.heap.size + 1, 1, none⟩ (.int .u32 zeroD.d1)).setCell ⟨w.heap.size + 1, 2, none⟩ (.int .u32 zeroD.d2)).setCell ⟨w.heap.size + 1, 3, none⟩ (.int .u32 zeroD.d3)).setCell ⟨w.heap.size + 1, 4, none⟩ (.int .u32 zeroD.d0)).setCell ⟨w.heap.size + 1, 5, none⟩ (.int .u32 zeroD.d1)).setCell ⟨w.heap.size + 1, 6, none⟩ (.int .u32 zeroD.d2)).setCell ⟨w.heap.size + 1, 7, none⟩ (.int .u32 zeroD.d3))
  generalize hwf : ((((((((((((((((w0.setCell ⟨w.heap.size, 0, none⟩ (.int .u32 zeroD.d0)).setCell ⟨w.heap.size, 1, none⟩ (.int .u32 zeroD.d1)).setCell ⟨w.heap.size, 2, none⟩ (.int .u32 zeroD.d2)).setCell ⟨w.heap.size, 3, none⟩ (.int .u32 zeroD.d3)).setCell ⟨w.heap.size, 4, none⟩ (.int .u32 zeroD.d0)).setCell ⟨w.heap.size, 5, none⟩ (.int .u32 zeroD.d1)).setCell ⟨w.heap.size, 6, none⟩ (.int .u32 zeroD.d2)).setCell ⟨w.heap.size, 7, none⟩ (.int .u32 zeroD.d3)).setCell ⟨w.heap.size + 1, 0, none⟩ (.int .u32 zeroD.d0)).setCell ⟨w.heap.size + 1, 1, none⟩ (.int .u32 zeroD.d1)).setCell ⟨w.heap.size + 1, 2, none⟩ (.int .u32 zeroD.d2)).setCell ⟨w.heap.size + 1, 3, none⟩ (.int .u32 zeroD.d3)).setCell ⟨w.heap.size + 1, 4, none⟩ (.int .u32 zeroD.d0)).setCell ⟨w.heap.size + 1, 5, none⟩ (.int .u32 zeroD.d1)).setCell ⟨w.heap.size + 1, 6, none⟩ (.int .u32 zeroD.d2)).setCell ⟨w.heap.size + 1, 7, none⟩ (.int .u32 zeroD.d3)) = wf at *
  have hf1 : Arr .u32 41 w.heap.size (both8 zeroD zeroD).toL wf := by rw [← hwf]; exact (fin88 hAe rfl hSe rfl).1
  have hf2 : Arr .u32 41 (w.heap.size + 1) (both8 zeroD zeroD).toL wf := by rw [← hwf]; exact (fin88 hAe rfl hSe rfl).2
  have hBf : Below w.heap.size w wf := by rw [← hwf]; exact below_put88 hBe (Nat.le_refl _) zeroD zeroD zeroD zeroD
  have X8 := Arr.c8 hf1
  have Y8 := Arr.c8 hf2
  simp only [both8] at X8 Y8
  obtain ⟨x0, x1, x2, x3, x4, x5, x6, x7⟩ := X8
  obtain ⟨y0, y1, y2, y3, y4, y5, y6, y7⟩ := Y8
  refine bodyPost_ret (v := .tuple #[pairV (zeroD, zeroD), pairV (zeroD, zeroD), .bool false]) (by simp [results, Tryd.results23, go_sem, pairV, x0, x1, x2, x3, x4, x5, x6, x7, y0, y1, y2, y3, y4, y5, y6, y7]) rfl ⟨rfl, hBf⟩
set_option maxHeartbeats 2000000 in
set_option maxRecDepth 100000 in
theorem rclash_same (a b : List D4) (pa pb : Option Addr) (na nb ca cb : Nat) (w : World) (hna : na = a.length) (hnb : nb = b.length) (h : na = nb) (hab : a = b) (ha : RdS w pa a) (hb : RdS w pb b) (hca : na ≤ ca) (hcam : ca ≤ maxLen) (hcb : nb ≤ cb) (hcbm : cb ≤ maxLen) :
    Calls Tryd.prog 23 #[.slice pa na ca, .slice pb nb cb] w fun e w' => e = .returned (.tuple #[pairV (zeroD, zeroD), pairV (zeroD, zeroD), .bool false]) ∧ Below w.heap.size w w' := by
  obtain ⟨w0, hw0⟩ : ∃ w0, (w.alloc (.cells #[.int .u32 0, .int .u32 0, .int .u32 0, .int .u32 0, .int .u32 0, .int .u32 0, .int .u32 0, .int .u32 0] 41)).alloc (.cells #[.int .u32 0, .int .u32 0, .int .u32 0, .int .u32 0, .int .u32 0, .int .u32 0, .int .u32 0, .int .u32 0] 41) = w0 := ⟨_, rfl⟩
  obtain ⟨hA, hS, hB, hsz⟩ := start88 w w0 hw0
  subst h
  have hd : decide (a = b) = true := decide_eq_true hab
  have HD := Lib.hid hd
  have HNA := Lib.hid hna
  have HNB := Lib.hid hnb
  clear hd hab hna hnb
  go_enter Tryd.func23, Tryd.ntmps23
  go_wp2_with fail
  clear hw0
  refine (rsame_any a b pa pb na na ca cb w0 HNA.out HNB.out (ha.on hB) (hb.on hB) hca hcam hcb hcbm).mono ?_
  rintro e w1 ⟨rfl, hA1⟩
  rw [HD.out]
  have hAe := hA.on hA1
  have hSe := hS.on hA1
  have hBe := hB.trans (hA1.mono hB.size)
  obtain ⟨k0, k1, k2, k3, k4, k5, k6, k7⟩ := Arr.c8 (y := nilS) hAe
  obtain ⟨f0, f1, f2, f3, f4, f5, f6, f7⟩ := Arr.f8 hAe
  obtain ⟨m0, m1, m2, m3, m4, m5, m6, m7⟩ := Arr.c8 (y := nilS) hSe
  obtain ⟨e0, e1, e2, e3, e4, e5, e6, e7⟩ := Arr.f8 hSe
  go_wp2_with fail
  change bodyPost _ _ _ _ _ ((((((((((((((((w1.setCell ⟨w.heap.size, 0, none⟩ (.int .u32 zeroD.d0)).setCell ⟨w.heap.size, 1, none⟩ (.int .u32 zeroD.d1)).setCell ⟨w.heap.size, 2, none⟩ (.int .u32 zeroD.d2)).setCell ⟨w.heap.size, 3, none⟩ (.int .u32 zeroD.d3)).setCell ⟨w.heap.size, 4, none⟩ (.int .u32 zeroD.d0)).setCell ⟨w.heap.size, 5, none⟩ (.int .u32 zeroD.d1)).setCell ⟨w.heap.size, 6, none⟩ (.int .u32 zeroD.d2)).setCell ⟨w.heap.size, 7, none⟩ (.int .u32 zeroD.d3)).setCell ⟨w.heap.size + 1, 0, none⟩ (.int .u32 zeroD.d0)).setCell ⟨w.heap.size + 1, 1, none⟩ (.int .u32 zeroD.d1)).setCell ⟨w.heap.size + 1, 2, none⟩ (.int .u32 zeroD.d2)).setCell ⟨w.heap.size + 1, 3, none⟩ (.int .u32 zeroD.d3)).setCell ⟨w.heap.size + 1, 4, none⟩ (.int .u32 zeroD.d0)).setCell ⟨w.heap.size + 1, 5, none⟩ (.int .u32 zeroD.d1)).setCell ⟨w.heap.size + 1, 6, none⟩ (.int .u32 zeroD.d2)).setCell ⟨w.heap.size + 1, 7, none⟩ (.int .u32 zeroD.d3))
  generalize hwf : ((((((((((((((((w1.setCell ⟨w.heap.size, 0, none⟩ (.int .u32 zeroD.d0)).setCell ⟨w.heap.size, 1, none⟩ (.int .u32 zeroD.d1)).setCell ⟨w.heap.size, 2, none⟩ (.int .u32 zeroD.d2)).setCell ⟨w.heap.size, 3, none⟩ (.int .u32 zeroD.d3)).setCell ⟨w.heap.size, 4, none⟩ (.int .u32 zeroD.d0)).setCell ⟨w.heap.size, 5, none⟩ (.int .u32 zeroD.d1)).setCell ⟨w.heap.size, 6, none⟩ (.int .u32 zeroD.d2)).setCell ⟨w.heap.size, 7, none⟩ (.int .u32 zeroD.d3)).setCell ⟨w.heap.size + 1, 0, none⟩ (.int .u32 zeroD.d0)).setCell ⟨w.heap.size + 1, 1, none⟩ (.int .u32 zeroD.d1)).setCell ⟨w.heap.size + 1, 2, none⟩ (.int .u32 zeroD.d2)).setCell ⟨w.heap.size + 1, 3, none⟩ (.int .u32 zeroD.d3)).setCell ⟨w.heap.size + 1, 4, none⟩ (.int .u32 zeroD.d0)).setCell ⟨w.heap.size + 1, 5, none⟩ (.int .u32 zeroD.d1)).setCell ⟨w.heap.size + 1, 6, none⟩ (.int .u32 zeroD.d2)).setCell ⟨w.heap.size + 1, 7, none⟩ (.int .u32 zeroD.d3)) = wf at *
  have hf1 : Arr .u32 41 w.heap.size (both8 zeroD zeroD).toL wf := by rw [← hwf]; exact (fin88 hAe rfl hSe rfl).1
  have hf2 : Arr .u32 41 (w.heap.size + 1) (both8 zeroD zeroD).toL wf := by rw [← hwf]; exact (fin88 hAe rfl hSe rfl).2
  have hBf : Below w.heap.size w wf := by rw [← hwf]; exact below_put88 hBe (Nat.le_refl _) zeroD zeroD zeroD zeroD
  have X8 := Arr.c8 hf1
  have Y8 := Arr.c8 hf2
  simp only [both8] at X8 Y8
  obtain ⟨x0, x1, x2, x3, x4, x5, x6, x7⟩ := X8
  obtain ⟨y0, y1, y2, y3, y4, y5, y6, y7⟩ := Y8
  refine bodyPost_ret (v := .tuple #[pairV (zeroD, zeroD), pairV (zeroD, zeroD), .bool false]) (by simp [results, Tryd.results23, go_sem, pairV, x0, x1, x2, x3, x4, x5, x6, x7, y0, y1, y2, y3, y4, y5, y6, y7]) rfl ⟨rfl, hBf⟩
set_option maxHeartbeats 2000000 in
set_option maxRecDepth 100000 in
theorem rclash_root (a b : List D4) (pa pb : Option Addr) (na nb ca cb : Nat) (w : World) (hna : na = a.length) (hnb : nb = b.length) (h : na = nb) (hab : a ≠ b) (hrt : rootD a ≠ rootD b) (hle : a.length ≤ 1000000) (hao : allD4 a) (hbo : allD4 b) (ha : RdS w pa a) (hb : RdS w pb b) (hca : na ≤ ca) (hcam : ca ≤ maxLen) (hcb : nb ≤ cb) (hcbm : cb ≤ maxLen) :
    Calls Tryd.prog 23 #[.slice pa na ca, .slice pb nb cb] w fun e w' => e = .returned (.tuple #[pairV (zeroD, zeroD), pairV (zeroD, zeroD), .bool false]) ∧ Below w.heap.size w w' := by
  obtain ⟨w0, hw0⟩ : ∃ w0, (w.alloc (.cells #[.int .u32 0, .int .u32 0, .int .u32 0, .int .u32 0, .int .u32 0, .int .u32 0, .int .u32 0, .int .u32 0] 41)).alloc (.cells #[.int .u32 0, .int .u32 0, .int .u32 0, .int .u32 0, .int .u32 0, .int .u32 0, .int .u32 0, .int .u32 0] 41) = w0 := ⟨_, rfl⟩
  obtain ⟨hA, hS, hB, hsz⟩ := start88 w w0 hw0
  subst h
  have hd : decide (a = b) = false := decide_eq_false hab
  have HD := Lib.hid hd
  obtain ⟨x, hx⟩ : ∃ x, rootD a = x := ⟨_, rfl⟩
  obtain ⟨y, hy⟩ : ∃ y, rootD b = y := ⟨_, rfl⟩
  have hle2 : b.length ≤ 1000000 := by omega
  have HNA := Lib.hid hna
  have HNB := Lib.hid hnb
  have hs : sameD x y = false := by
    rcases q : sameD x y with _ | _
    · rfl
    · exact absurd ((sameD_iff x y).mp q) (by rw [← hx, ← hy]; exact hrt)
  have hE := eqD_run x y
  rw [hs] at hE
  have HX := Lib.hid hx
  have HY := Lib.hid hy
  clear hd hx hy hs hab hrt hna hnb
  go_enter Tryd.func23, Tryd.ntmps23
  go_wp2_with fail
  clear hw0
  refine (rsame_any a b pa pb na na ca cb w0 HNA.out HNB.out (ha.on hB) (hb.on hB) hca hcam hcb hcbm).mono ?_
  rintro e w1 ⟨rfl, hA1⟩
  rw [HD.out]
  have hB1 := hB.trans (hA1.mono hB.size)
  have hAa := hA.on hA1
  have hSa := hS.on hA1
  go_wp2_with fail
  refine (root_gen a hle hao x pa na ca w1 (ha.on hB1) HNA.out hca hcam HX.out).mono ?_
  rintro e w2 ⟨rfl, hA2⟩
  have hB2 := hB1.trans (hA2.mono hB1.size)
  have hAb := hAa.on hA2
  have hSb := hSa.on hA2
  go_wp2_with fail
  refine (root_gen b hle2 hbo y pb na cb w2 (hb.on hB2) HNB.out hcb hcbm HY.out).mono ?_
  rintro e w3 ⟨rfl, hA3⟩
  have hAe := hAb.on hA3
  have hSe := hSb.on hA3
  have hBe := hB2.trans (hA3.mono hB2.size)
  obtain ⟨k0, k1, k2, k3, k4, k5, k6, k7⟩ := Arr.c8 (y := nilS) hAe
  obtain ⟨f0, f1, f2, f3, f4, f5, f6, f7⟩ := Arr.f8 hAe
  obtain ⟨m0, m1, m2, m3, m4, m5, m6, m7⟩ := Arr.c8 (y := nilS) hSe
  obtain ⟨e0, e1, e2, e3, e4, e5, e6, e7⟩ := Arr.f8 hSe
  clear hA hS hB hAa hSa hB1 hAb hSb hB2
  go_wp2_with fail
  change bodyPost _ _ _ _ _ ((((((((((((((((w3.setCell ⟨w.heap.size, 0, none⟩ (.int .u32 zeroD.d0)).setCell ⟨w.heap.size, 1, none⟩ (.int .u32 zeroD.d1)).setCell ⟨w.heap.size, 2, none⟩ (.int .u32 zeroD.d2)).setCell ⟨w.heap.size, 3, none⟩ (.int .u32 zeroD.d3)).setCell ⟨w.heap.size, 4, none⟩ (.int .u32 zeroD.d0)).setCell ⟨w.heap.size, 5, none⟩ (.int .u32 zeroD.d1)).setCell ⟨w.heap.size, 6, none⟩ (.int .u32 zeroD.d2)).setCell ⟨w.heap.size, 7, none⟩ (.int .u32 zeroD.d3)).setCell ⟨w.heap.size + 1, 0, none⟩ (.int .u32 zeroD.d0)).setCell ⟨w.heap.size + 1, 1, none⟩ (.int .u32 zeroD.d1)).setCell ⟨w.heap.size + 1, 2, none⟩ (.int .u32 zeroD.d2)).setCell ⟨w.heap.size + 1, 3, none⟩ (.int .u32 zeroD.d3)).setCell ⟨w.heap.size + 1, 4, none⟩ (.int .u32 zeroD.d0)).setCell ⟨w.heap.size + 1, 5, none⟩ (.int .u32 zeroD.d1)).setCell ⟨w.heap.size + 1, 6, none⟩ (.int .u32 zeroD.d2)).setCell ⟨w.heap.size + 1, 7, none⟩ (.int .u32 zeroD.d3))
  generalize hwf : ((((((((((((((((w3.setCell ⟨w.heap.size, 0, none⟩ (.int .u32 zeroD.d0)).setCell ⟨w.heap.size, 1, none⟩ (.int .u32 zeroD.d1)).setCell ⟨w.heap.size, 2, none⟩ (.int .u32 zeroD.d2)).setCell ⟨w.heap.size, 3, none⟩ (.int .u32 zeroD.d3)).setCell ⟨w.heap.size, 4, none⟩ (.int .u32 zeroD.d0)).setCell ⟨w.heap.size, 5, none⟩ (.int .u32 zeroD.d1)).setCell ⟨w.heap.size, 6, none⟩ (.int .u32 zeroD.d2)).setCell ⟨w.heap.size, 7, none⟩ (.int .u32 zeroD.d3)).setCell ⟨w.heap.size + 1, 0, none⟩ (.int .u32 zeroD.d0)).setCell ⟨w.heap.size + 1, 1, none⟩ (.int .u32 zeroD.d1)).setCell ⟨w.heap.size + 1, 2, none⟩ (.int .u32 zeroD.d2)).setCell ⟨w.heap.size + 1, 3, none⟩ (.int .u32 zeroD.d3)).setCell ⟨w.heap.size + 1, 4, none⟩ (.int .u32 zeroD.d0)).setCell ⟨w.heap.size + 1, 5, none⟩ (.int .u32 zeroD.d1)).setCell ⟨w.heap.size + 1, 6, none⟩ (.int .u32 zeroD.d2)).setCell ⟨w.heap.size + 1, 7, none⟩ (.int .u32 zeroD.d3)) = wf at *
  have hf1 : Arr .u32 41 w.heap.size (both8 zeroD zeroD).toL wf := by rw [← hwf]; exact (fin88 hAe rfl hSe rfl).1
  have hf2 : Arr .u32 41 (w.heap.size + 1) (both8 zeroD zeroD).toL wf := by rw [← hwf]; exact (fin88 hAe rfl hSe rfl).2
  have hBf : Below w.heap.size w wf := by rw [← hwf]; exact below_put88 hBe (Nat.le_refl _) zeroD zeroD zeroD zeroD
  have X8 := Arr.c8 hf1
  have Y8 := Arr.c8 hf2
  simp only [both8] at X8 Y8
  obtain ⟨x0, x1, x2, x3, x4, x5, x6, x7⟩ := X8
  obtain ⟨y0, y1, y2, y3, y4, y5, y6, y7⟩ := Y8
  refine bodyPost_ret (v := .tuple #[pairV (zeroD, zeroD), pairV (zeroD, zeroD), .bool false]) (by simp [results, Tryd.results23, go_sem, pairV, x0, x1, x2, x3, x4, x5, x6, x7, y0, y1, y2, y3, y4, y5, y6, y7]) rfl ⟨rfl, hBf⟩
end Go.Proofs.YtnimbclnhgbdcaaDoor
