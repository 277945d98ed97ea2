/-
  The document's Clash, where something is told: first (written by gen_rclash.py).
-/
import Derived.Test.YtnimbclnhgbdcaaDoorMkW
import Derived.Deep.CutRange
namespace Go.Proofs.YtnimbclnhgbdcaaDoor
open Go.RowKit

set_option maxHeartbeats 8000000 in
set_option maxRecDepth 100000 in
theorem rclash_first (a b : List D4) (p q : D4 × D4) (pa pb : Option Addr) (na nb ca cb : Nat) (w : World) (hna : na = a.length) (hnb : nb = b.length) (h : na = nb) (hab : a ≠ b) (hrt : rootD a = rootD b) (hcl : clashD a b = some (p, q)) (hle : a.length ≤ 1000000) (hao : allD4 a) (hbo : allD4 b) (h4 : rootD (a.take (half a.length)) = rootD (b.take (half b.length)) ∧ rootD (a.drop (half a.length)) = rootD (b.drop (half b.length))) (h5 : a.take (half a.length) ≠ b.take (half a.length)) (IH : RC (a.take (half a.length)) (b.take (half a.length))) (ha : RdS w pa a) (hb : RdS w pb b) (hca : na ≤ ca) (hcam : ca ≤ maxLen) (hcb : nb ≤ cb) (hcbm : cb ≤ maxLen) :
    Calls Tryd.prog 23 #[.slice pa na ca, .slice pb nb cb] w fun e w' => e = .returned (.tuple #[pairV p, pairV q, .bool true]) ∧ Below w.heap.size w w' := by
  have h1 : a.length = b.length := by omega
  have h2 : 2 ≤ a.length := clash_two pairS noneD h1 hab hrt
  obtain ⟨rx, hrx⟩ : ∃ x, rootD (a.take (half a.length)) = x := ⟨_, rfl⟩
  obtain ⟨rz, hrz⟩ : ∃ z, rootD (a.drop (half a.length)) = z := ⟨_, rfl⟩
  obtain ⟨ru, hru⟩ : ∃ u, rootD (b.take (half b.length)) = u := ⟨_, rfl⟩
  obtain ⟨rv, hrv⟩ : ∃ v, rootD (b.drop (half b.length)) = v := ⟨_, rfl⟩
  have hcl2 : clashD (a.take (half a.length)) (b.take (half a.length)) = some (p, q) := by
    rw [← hcl]
    exact (clash_first pairS noneD h1 hab hrt (by rw [Decidable.not_not]; exact Prod.ext (by rw [← h1] at h4; exact h4.1) (by rw [← h1] at h4; exact h4.2)) h5).symm
  have hbl : (sameD rx ru && sameD rz rv) = true := by
    rw [hrx, hrz, hru, hrv] at h4
    rw [(sameD_iff rx ru).mpr h4.1, (sameD_iff rz rv).mpr h4.2]; rfl
  have hdec : decide (a.take (half a.length) = b.take (half a.length)) = false := decide_eq_false h5
  obtain ⟨w0, hw0⟩ : ∃ w0, (w.alloc (.cells #[.int .u32 0, .int .u32 0, .int .u32 0, .int .u32 0, .int .u32 0, .int .u32 0, .int .u32 0, .int .u32 0] 41)).alloc (.cells #[.int .u32 0, .int .u32 0, .int .u32 0, .int .u32 0, .int .u32 0, .int .u32 0, .int .u32 0, .int .u32 0] 41) = w0 := ⟨_, rfl⟩
  obtain ⟨hA, hS, hB, hsz⟩ := start88 w w0 hw0
  subst h
  have hd : decide (a = b) = false := decide_eq_false hab
  have HD := Lib.hid hd
  obtain ⟨x, hx⟩ : ∃ x, rootD a = x := ⟨_, rfl⟩
  obtain ⟨y, hy⟩ : ∃ y, rootD b = y := ⟨_, rfl⟩
  have hle2 : b.length ≤ 1000000 := by omega
  have HNA := Lib.hid hna
  have HNB := Lib.hid hnb
  have hE := eqD_run x y
  rw [(sameD_iff x y).mpr (by rw [← hx, ← hy]; exact hrt)] at hE
  have hE2 := eqP_run rx rz ru rv
  rw [hbl] at hE2
  have HX := Lib.hid hx
  have HY := Lib.hid hy
  obtain ⟨ba, oa, rfl, hra⟩ := ha (by intro e; rw [e] at h2; simp at h2)
  obtain ⟨bb, ob, rfl, hrb⟩ := hb (by intro e; rw [e] at h1; simp only [List.length_nil] at h1; omega)
  obtain ⟨k, hk⟩ : ∃ k, half a.length = k := ⟨_, rfl⟩
  have hkb : half b.length = k := by rw [← h1]; exact hk
  rw [hk] at hrx hrz
  rw [hkb] at hru hrv
  rw [hk] at IH hcl2 hdec
  have hk' : half na = k := by rw [hna]; exact hk
  have hkn : k < na := by rw [← hk', hna]; exact half_lt h2
  have hkp : 0 < k := by rw [← hk']; exact half_pos na
  have HLA : Hid (k = (a.take k).length) := by show _ = _; rw [List.length_take]; omega
  have HLB : Hid (k = (b.take k).length) := by show _ = _; rw [List.length_take]; omega
  have HDA : Hid (na - k = (a.drop k).length) := by show _ = _; rw [List.length_drop]; omega
  have HDB : Hid (na - k = (b.drop k).length) := by show _ = _; rw [List.length_drop]; omega
  have HRA1 : RootC (a.take k) := root_any _ (by rw [List.length_take]; omega) (hao.take _)
  have HRA2 : RootC (a.drop k) := root_any _ (by rw [List.length_drop]; omega) (hao.drop _)
  have HRB1 : RootC (b.take k) := root_any _ (by rw [List.length_take]; omega) (hbo.take _)
  have HRB2 : RootC (b.drop k) := root_any _ (by rw [List.length_drop]; omega) (hbo.drop _)
  have hlen : na ≤ 1000000 := by omega
  have HK := Lib.hid hk'
  have HRX := Lib.hid hrx
  have HRZ := Lib.hid hrz
  have HRU := Lib.hid hru
  have HRV := Lib.hid hrv
  have hcm1 : ca - k ≤ maxLen := by omega
  have hcm2 : cb - k ≤ maxLen := by omega
  have ht1 : (a.take k).length ≤ ca := by rw [← HLA.out]; omega
  have ht2 : (a.drop k).length ≤ ca - k := by rw [← HDA.out]; omega
  have ht3 : (b.take k).length ≤ cb := by rw [← HLB.out]; omega
  have ht4 : (b.drop k).length ≤ cb - k := by rw [← HDB.out]; omega
  have hki : (k : Int) ≤ (na : Int) := by omega
  have hkc : (k : Int) ≤ (ca : Int) := by omega
  have hkc2 : (k : Int) ≤ (cb : Int) := by omega
  have hk00 : (0 : Int) ≤ (k : Int) := by omega
  have hnc : (na : Int) ≤ (ca : Int) := by omega
  have hnc2 : (na : Int) ≤ (cb : Int) := by omega
  have hck : ca ≠ k := by omega
  have hck2 : cb ≠ k := by omega
  have HD2 := Lib.hid hdec
  have HCL2 := Lib.hid hcl2
  clear hd hx hy hab hrt hna hnb hcl h1 hk hkb hk' hrx hrz hru hrv hbl ha hb h4 h5 hdec hcl2
  go_enter Tryd.func23, Tryd.ntmps23
  go_wp2_with fail
  clear hw0
  refine (rsame_any a b _ _ na na ca cb w0 HNA.out HNB.out (fun _ => ⟨ba, oa, rfl, hra.on hB⟩) (fun _ => ⟨bb, ob, rfl, hrb.on hB⟩) hca hcam hcb hcbm).mono ?_
  rintro e w1 ⟨rfl, hA1⟩
  rw [HD.out]
  have hB1 := hB.trans (hA1.mono hB.size)
  have hAa := hA.on hA1
  have hSa := hS.on hA1
  go_wp2_with fail
  refine (root_gen a hle hao x _ na ca w1 (fun _ => ⟨ba, oa, rfl, hra.on hB1⟩) HNA.out hca hcam HX.out).mono ?_
  rintro e w2 ⟨rfl, hA2⟩
  have hB2 := hB1.trans (hA2.mono hB1.size)
  have hAb := hAa.on hA2
  have hSb := hSa.on hA2
  go_wp2_with fail
  refine (root_gen b hle2 hbo y _ na cb w2 (fun _ => ⟨bb, ob, rfl, hrb.on hB2⟩) HNB.out hcb hcbm HY.out).mono ?_
  rintro e w3 ⟨rfl, hA3⟩
  have hAe := hAb.on hA3
  have hSe := hSb.on hA3
  have hBe := hB2.trans (hA3.mono hB2.size)
  have hra3 := hra.on hBe
  have hrb3 := hrb.on hBe
  clear hA hS hB hAa hSa hB1 hAb hSb hB2 hA1 hA2 hA3
  go_wp2_with fail
  refine (half_val na k w3 hlen HK.out).mono ?_
  rintro e w3 ⟨rfl, rfl⟩
  go_upto_region 4 with fail
  go_cut [8] from 10 (fun p wx => ∃ X, p = .pointer (some ⟨X, 0, none⟩) ∧ w3.heap.size ≤ X ∧ Arr .u32 41 X (both8 rx rz).toL wx ∧ Below w3.heap.size w3 wx)
  case first =>
    have hrd : RdL w3.drew ba oa a := hra3
    have hBd : Below w3.heap.size w3 w3.drew := (Below.refl _ _).drew
    obtain ⟨wn, hwn⟩ : ∃ wn, (w3.alloc (.cells #[.int .u32 0, .int .u32 0, .int .u32 0, .int .u32 0, .int .u32 0, .int .u32 0, .int .u32 0, .int .u32 0] 41)).drew = wn := ⟨_, rfl⟩
    have hNn : Arr .u32 41 w3.heap.size nilS.toL wn := by rw [← hwn]; exact heap_alloc_new w3 _
    have hBn : Below w3.heap.size w3 wn := by rw [← hwn]; exact ((Below.refl _ _).alloc (Nat.le_refl _) _).drew
    have hrn : RdL wn ba oa a := (hra3).on hBn
    go_region_held3 (fun _ => True)
      (trivial)
      (first
        | (go_at_call 14; (with_reducible refine (root_val _ HRA1 rx ba oa k ca _ (hrd.take k) HLA.out ht1 hcam HRX.out).mono ?_); rintro e v1 ⟨rfl, hA1⟩; have hB1 := hBd.trans (hA1.mono hBd.size); have hr1 := hrd.on hA1)
        | (go_at_call 14; (with_reducible refine (root_val _ HRA1 rx ba oa k ca _ (hrn.take k) HLA.out ht1 hcam HRX.out).mono ?_); rintro e v1 ⟨rfl, hA1⟩; have hB1 := hBn.trans (hA1.mono hBn.size); have hr1 := hrn.on hA1; have hN1 := hNn.on hA1)
        | (go_at_call 14; (with_reducible refine (root_val _ HRA2 rz ba (oa + k * 4) (na - k) (ca - k) _ (hr1.drop k) HDA.out ht2 hcm1 HRZ.out).mono ?_); rintro e v2 ⟨rfl, hA2⟩; have hB2 := hB1.trans (hA2.mono hB1.size); (try (have hN2 := hN1.on hA2; obtain ⟨k0, k1, k2, k3, k4, k5, k6, k7⟩ := Arr.c8 (y := nilS) hN2; obtain ⟨f0, f1, f2, f3, f4, f5, f6, f7⟩ := hN2.f8)))
        | (go_at_call 14; (with_reducible refine (root_val _ HRA2 rz ba (oa + k * 4) (na - k) (ca - k) _ ((rdl_al hr1 (.cells #[.int .u32 0, .int .u32 0, .int .u32 0, .int .u32 0, .int .u32 0, .int .u32 0, .int .u32 0, .int .u32 0] 41)).drop k) HDA.out ht2 hcm1 HRZ.out).mono ?_); rintro e v2 ⟨rfl, hA2⟩; have hB2 := (hB1.alloc hB1.size (.cells #[.int .u32 0, .int .u32 0, .int .u32 0, .int .u32 0, .int .u32 0, .int .u32 0, .int .u32 0, .int .u32 0] 41)).trans (hA2.mono (hB1.alloc hB1.size (.cells #[.int .u32 0, .int .u32 0, .int .u32 0, .int .u32 0, .int .u32 0, .int .u32 0, .int .u32 0, .int .u32 0] 41)).size); have hN2 := new8 hA2; obtain ⟨k0, k1, k2, k3, k4, k5, k6, k7⟩ := Arr.c8 (y := nilS) hN2; obtain ⟨f0, f1, f2, f3, f4, f5, f6, f7⟩ := hN2.f8))
    all_goals
      go_wp2_with fail
      go_meet
      first
        | exact ⟨_, rfl, hB2.size, al8 rx rz v2, hB2.alloc hB2.size _⟩
        | exact ⟨_, rfl, hB1.size, putB8 hN2 rfl, below_putB8 hB2 hB1.size rx rz⟩
        | exact ⟨_, rfl, Nat.le_refl _, putB8 hN2 rfl, below_putB8 hB2 (Nat.le_refl _) rx rz⟩
  case rest =>
  obtain ⟨X, rfl, hXge, hX, hBx⟩ := hcut
  generalize wc = w4 at *
  have hA4 := hAe.on hBx
  have hS4 := hSe.on hBx
  have hB4 := hBe.trans (hBx.mono hBe.size)
  have hra4 := hra3.on hBx
  have hrb4 := hrb3.on hBx
  have hXlt := hX.lt
  have hHX : w.heap.size + 1 < X := Nat.lt_of_lt_of_le hSe.lt hXge
  clear hAe hSe hBe hra3 hrb3 hBx
  go_upto_region 5 with fail
  go_cut [9] from 10 (fun p wx => ∃ X, p = .pointer (some ⟨X, 0, none⟩) ∧ w4.heap.size ≤ X ∧ Arr .u32 41 X (both8 ru rv).toL wx ∧ Below w4.heap.size w4 wx)
  case first =>
    have hrd : RdL w4.drew bb ob b := hrb4
    have hBd : Below w4.heap.size w4 w4.drew := (Below.refl _ _).drew
    obtain ⟨wn, hwn⟩ : ∃ wn, (w4.alloc (.cells #[.int .u32 0, .int .u32 0, .int .u32 0, .int .u32 0, .int .u32 0, .int .u32 0, .int .u32 0, .int .u32 0] 41)).drew = wn := ⟨_, rfl⟩
    have hNn : Arr .u32 41 w4.heap.size nilS.toL wn := by rw [← hwn]; exact heap_alloc_new w4 _
    have hBn : Below w4.heap.size w4 wn := by rw [← hwn]; exact ((Below.refl _ _).alloc (Nat.le_refl _) _).drew
    have hrn : RdL wn bb ob b := (hrb4).on hBn
    go_region_held3 (fun _ => True)
      (trivial)
      (first
        | (go_at_call 14; (with_reducible refine (root_val _ HRB1 ru bb ob k cb _ (hrd.take k) HLB.out ht3 hcbm HRU.out).mono ?_); rintro e v1 ⟨rfl, hA1⟩; have hB1 := hBd.trans (hA1.mono hBd.size); have hr1 := hrd.on hA1)
        | (go_at_call 14; (with_reducible refine (root_val _ HRB1 ru bb ob k cb _ (hrn.take k) HLB.out ht3 hcbm HRU.out).mono ?_); rintro e v1 ⟨rfl, hA1⟩; have hB1 := hBn.trans (hA1.mono hBn.size); have hr1 := hrn.on hA1; have hN1 := hNn.on hA1)
        | (go_at_call 14; (with_reducible refine (root_val _ HRB2 rv bb (ob + k * 4) (na - k) (cb - k) _ (hr1.drop k) HDB.out ht4 hcm2 HRV.out).mono ?_); rintro e v2 ⟨rfl, hA2⟩; have hB2 := hB1.trans (hA2.mono hB1.size); (try (have hN2 := hN1.on hA2; obtain ⟨k0, k1, k2, k3, k4, k5, k6, k7⟩ := Arr.c8 (y := nilS) hN2; obtain ⟨f0, f1, f2, f3, f4, f5, f6, f7⟩ := hN2.f8)))
        | (go_at_call 14; (with_reducible refine (root_val _ HRB2 rv bb (ob + k * 4) (na - k) (cb - k) _ ((rdl_al hr1 (.cells #[.int .u32 0, .int .u32 0, .int .u32 0, .int .u32 0, .int .u32 0, .int .u32 0, .int .u32 0, .int .u32 0] 41)).drop k) HDB.out ht4 hcm2 HRV.out).mono ?_); rintro e v2 ⟨rfl, hA2⟩; have hB2 := (hB1.alloc hB1.size (.cells #[.int .u32 0, .int .u32 0, .int .u32 0, .int .u32 0, .int .u32 0, .int .u32 0, .int .u32 0, .int .u32 0] 41)).trans (hA2.mono (hB1.alloc hB1.size (.cells #[.int .u32 0, .int .u32 0, .int .u32 0, .int .u32 0, .int .u32 0, .int .u32 0, .int .u32 0, .int .u32 0] 41)).size); have hN2 := new8 hA2; obtain ⟨k0, k1, k2, k3, k4, k5, k6, k7⟩ := Arr.c8 (y := nilS) hN2; obtain ⟨f0, f1, f2, f3, f4, f5, f6, f7⟩ := hN2.f8))
    all_goals
      go_wp2_with fail
      go_meet
      first
        | exact ⟨_, rfl, hB2.size, al8 ru rv v2, hB2.alloc hB2.size _⟩
        | exact ⟨_, rfl, hB1.size, putB8 hN2 rfl, below_putB8 hB2 hB1.size ru rv⟩
        | exact ⟨_, rfl, Nat.le_refl _, putB8 hN2 rfl, below_putB8 hB2 (Nat.le_refl _) ru rv⟩
  case rest =>
  obtain ⟨Y, rfl, hYge, hY, hBy⟩ := hcut
  generalize wc = w5 at *
  have hA5 := hA4.on hBy
  have hS5 := hS4.on hBy
  have hB5 := hB4.trans (hBy.mono hB4.size)
  have hX5 := hX.on hBy
  have hXY : X < Y := Nat.lt_of_lt_of_le hXlt hYge
  clear hA4 hS4 hB4 hra4 hrb4 hBy hX
  have X8 := Arr.c8 hX5
  have Y8 := Arr.c8 hY
  simp only [both8] at X8 Y8
  obtain ⟨x0, x1, x2, x3, x4, x5, x6, x7⟩ := X8
  obtain ⟨y0, y1, y2, y3, y4, y5, y6, y7⟩ := Y8
  go_wp2_with fail
  have hB5d := hB5.drew
  have hra5 : RdS w5.drew (some ⟨ba, oa, none⟩) (a.take k) := fun _ => ⟨ba, oa, rfl, (hra.on hB5d).take k⟩
  have hrb5 : RdS w5.drew (some ⟨bb, ob, none⟩) (b.take k) := fun _ => ⟨bb, ob, rfl, (hrb.on hB5d).take k⟩
  have hA5d : Arr .u32 41 w.heap.size nilS.toL w5.drew := hA5
  have hS5d : Arr .u32 41 (w.heap.size + 1) nilS.toL w5.drew := hS5
  have hkca : k ≤ ca := by omega
  have hkcb : k ≤ cb := by omega
  clear x0 x1 x2 x3 x4 x5 x6 x7 y0 y1 y2 y3 y4 y5 y6 y7 hA5 hS5 hB5 hX5 hY hE hE2
  go_region_held3 (fun _ => True)
    (trivial)
    ((go_at_call 15; (with_reducible refine (rsame_any (a.take k) (b.take k) _ _ k k ca cb _ HLA.out HLB.out hra5 hrb5 hkca hcam hkcb hcbm).mono ?_); rintro e w6 ⟨rfl, hA6⟩; have hB6 := hB5d.trans (hA6.mono hB5d.size); have hA6' := hA5d.on hA6; have hS6 := hS5d.on hA6))
  rw [HD2.out]
  go_wp2_with fail
  have hB6d := hB6.drew
  have hA6d : Arr .u32 41 w.heap.size nilS.toL w6.drew := hA6'
  have hS6d : Arr .u32 41 (w.heap.size + 1) nilS.toL w6.drew := hS6
  have hra6 : RdS w6.drew (some ⟨ba, oa, none⟩) (a.take k) := fun _ => ⟨ba, _, rfl, (hra.on hB6d).take k⟩
  have hrb6 : RdS w6.drew (some ⟨bb, ob, none⟩) (b.take k) := fun _ => ⟨bb, _, rfl, (hrb.on hB6d).take k⟩
  have hq1 : k ≤ ca := by omega
  have hq2 : k ≤ cb := by omega
  clear hA6' hS6 hB6 hA6
  go_region_held3 (fun _ => True)
    (trivial)
    ((go_at_call 23; (with_reducible refine (rc_val (a.take k) (b.take k) IH p q _ _ k k ca cb _ HCL2.out HLA.out HLB.out hra6 hrb6 hq1 hcam hq2 hcbm).mono ?_); rintro e w7 ⟨rfl, hA7⟩; have hB7 := hB6d.trans (hA7.mono hB6d.size); have hA7' := hA6d.on hA7; have hS7 := hS6d.on hA7; obtain ⟨k0, k1, k2, k3, k4, k5, k6, k7⟩ := Arr.c8 (y := nilS) hA7'; obtain ⟨f0, f1, f2, f3, f4, f5, f6, f7⟩ := hA7'.f8; obtain ⟨m0, m1, m2, m3, m4, m5, m6, m7⟩ := Arr.c8 (y := nilS) hS7; obtain ⟨e0, e1, e2, e3, e4, e5, e6, e7⟩ := hS7.f8))
  obtain ⟨hf1, hf2⟩ := fin88 (x := p.1) (z := p.2) (u := q.1) (v := q.2) hA7' rfl hS7 rfl
  have hBg := below_put88 (b := w.heap.size) hB7 (Nat.le_refl _) p.1 p.2 q.1 q.2
  all_goals
    clear k0 k1 k2 k3 k4 k5 k6 k7 f0 f1 f2 f3 f4 f5 f6 f7 m0 m1 m2 m3 m4 m5 m6 m7 e0 e1 e2 e3 e4 e5 e6 e7
    go_wp2_with fail
    generalize ((((((((((((((((w7.setCell ⟨w.heap.size, 0, none⟩ (.int .u32 p.1.d0)).setCell ⟨w.heap.size, 1, none⟩ (.int .u32 p.1.d1)).setCell ⟨w.heap.size, 2, none⟩ (.int .u32 p.1.d2)).setCell ⟨w.heap.size, 3, none⟩ (.int .u32 p.1.d3)).setCell ⟨w.heap.size, 4, none⟩ (.int .u32 p.2.d0)).setCell ⟨w.heap.size, 5, none⟩ (.int .u32 p.2.d1)).setCell ⟨w.heap.size, 6, none⟩ (.int .u32 p.2.d2)).setCell ⟨w.heap.size, 7, none⟩ (.int .u32 p.2.d3)).setCell ⟨w.heap.size + 1, 0, none⟩ (.int .u32 q.1.d0)).setCell ⟨w.heap.size + 1, 1, none⟩ (.int .u32 q.1.d1)).setCell ⟨w.heap.size + 1, 2, none⟩ (.int .u32 q.1.d2)).setCell ⟨w.heap.size + 1, 3, none⟩ (.int .u32 q.1.d3)).setCell ⟨w.heap.size + 1, 4, none⟩ (.int .u32 q.2.d0)).setCell ⟨w.heap.size + 1, 5, none⟩ (.int .u32 q.2.d1)).setCell ⟨w.heap.size + 1, 6, none⟩ (.int .u32 q.2.d2)).setCell ⟨w.heap.size + 1, 7, none⟩ (.int .u32 q.2.d3)) = wf at *
    have X8 := Arr.c8 (show Arr .u32 41 w.heap.size (both8 p.1 p.2).toL wf from hf1)
    have Y8 := Arr.c8 (show Arr .u32 41 (w.heap.size + 1) (both8 q.1 q.2).toL wf from hf2)
    simp only [both8] at X8 Y8
    obtain ⟨x0, x1, x2, x3, x4, x5, x6, x7⟩ := X8
    obtain ⟨y0, y1, y2, y3, y4, y5, y6, y7⟩ := Y8
    refine bodyPost_ret (v := .tuple #[pairV p, pairV q, .bool true]) (by simp [results, Tryd.results23, go_sem, pairV, x0, x1, x2, x3, x4, x5, x6, x7, y0, y1, y2, y3, y4, y5, y6, y7]) rfl ⟨rfl, hBg⟩
end Go.Proofs.YtnimbclnhgbdcaaDoor
