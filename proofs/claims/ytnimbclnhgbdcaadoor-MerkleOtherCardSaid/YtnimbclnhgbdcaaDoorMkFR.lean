/-
  The document's Fooled, on the right (written by gen_fool.py).
-/
import Derived.Test.YtnimbclnhgbdcaaDoorMkFo
namespace Go.Proofs.YtnimbclnhgbdcaaDoor
open Go.RowKit

set_option maxHeartbeats 8000000 in
set_option maxRecDepth 100000 in
theorem fools_right (l : List D4) (i : Nat) (f y : D4) (r : List D4) (h2 : 2 ≤ l.length) (hle : l.length ≤ 1000000) (hin : i < l.length) (hi : ¬ i < half l.length) (hlo : allD4 l) (hfo : f.ok) (hpo : allD4 (r ++ [y])) (hup : upD l.length i f (r ++ [y]) = (rootD l, true)) (IH : rootD (l.drop (half l.length)) = (upD (l.length - half l.length) (i - half l.length) f r).1 → FoolsT (l.drop (half l.length)) (i - half l.length) f r) : FoolsT l i f (r ++ [y]) := by
  intro b o cap pp cp w hr hrp hc hm hcp hcpm
  obtain ⟨n, hn⟩ : ∃ n, l.length = n := ⟨_, rfl⟩
  have hk1 := half_lt h2
  have hk0 := half_pos l.length
  obtain ⟨k, hk⟩ : ∃ k, half l.length = k := ⟨_, rfl⟩
  obtain ⟨x, hx⟩ : ∃ x, rootD (l.take k) = x := ⟨_, rfl⟩
  obtain ⟨z, hz⟩ : ∃ z, rootD (l.drop k) = z := ⟨_, rfl⟩
  obtain ⟨⟨v, ok⟩, hv⟩ : ∃ v, upD (l.length - k) (i - k) f r = v := ⟨_, rfl⟩
  have hxo : x.ok := by rw [← hx]; exact rootD_ok _ _ rfl (hlo.take k)
  have hzo : z.ok := by rw [← hz]; exact rootD_ok _ _ rfl (hlo.drop k)
  have hyo : y.ok := hpo.lastOk
  have hro := hpo.left
  have hvo : v.ok := by
    have := upD_okF r (l.length - k) (i - k) f hfo hro
    rw [hv] at this
    exact this
  rw [hk] at hk0 hk1 IH hi
  have hupe : upD l.length i f (r ++ [y]) = (pairS y v, ok) := by
    rw [upD, up_right pairS f r y (by omega) (by rw [hk]; exact hi), hk]
    show (pairS y (upD (l.length - k) (i - k) f r).1, (upD (l.length - k) (i - k) f r).2) = _
    rw [hv]
  have hroot : rootD l = pairS x z := by rw [rootD, root_more pairS noneD l h2, hk, ← hx, ← hz]; rfl
  rw [hupe, hroot] at hup
  simp only [Prod.mk.injEq] at hup
  obtain ⟨hpe, hok⟩ := hup
  subst hok
  rw [hv] at IH
  obtain ⟨g, hg⟩ : ∃ g, pairS x z = g := ⟨_, rfl⟩
  rw [hg] at hpe
  have HG1 := Lib.hid hg
  have HG2 := Lib.hid hpe
  obtain ⟨bl, hbl⟩ : ∃ bl, (sameD x y && sameD z v) = bl := ⟨_, rfl⟩
  have hE := eqP_run x z y v
  rw [hbl] at hE
  have hEg := eqD_yes g
  have IH2 : Hid (bl = true → FoolsT (l.drop k) (i - k) f r) := by
    intro e
    rw [← hbl, Bool.and_eq_true] at e
    apply IH
    show _ = v
    rw [hz]; exact (sameD_iff z v).mp e.2
  have HRA1 : RootC (l.take k) := root_any _ (by rw [List.length_take]; omega) (hlo.take _)
  have HRA2 : RootC (l.drop k) := root_any _ (by rw [List.length_drop]; omega) (hlo.drop _)
  have HLA : Hid (k = (l.take k).length) := by show _ = _; rw [List.length_take]; omega
  have HDA : Hid (n - k = (l.drop k).length) := by show _ = _; rw [List.length_drop, hn]
  have hlp : (r ++ [y]).length = r.length + 1 := by simp
  obtain ⟨bp, op, rfl, hpd⟩ := hrp (by simp)
  obtain ⟨M, hmm⟩ : ∃ M, r.length = M := ⟨_, rfl⟩
  obtain ⟨N, hN⟩ : ∃ N, M + 1 = N := ⟨_, rfl⟩
  rw [hlp, hmm, hN] at hcp ⊢
  rw [hn] at hk hk1 h2 hle hc hin hv ⊢
  have HV := Lib.hid hv
  have HK := Lib.hid hk
  have HXX := Lib.hid hx
  have HZZ := Lib.hid hz
  have HM := Lib.hid hmm
  have hy0 := hpd.last
  rw [hmm] at hy0
  have hrd0 := hpd.init
  have hpb := hpd.1
  clear hv hk hx hz hg hpe hbl hupe hroot IH hlp hmm hpd
  have hcm := hm
  have hcpm' := hcpm
  unfold maxLen at hm hcpm
  have hn2 : decide ((n : Int) < 2) = false := by simp; omega
  have hN0 : ((N : Int) == 0) = false := by simp; omega
  have hNw : IntKind.i64.wrap ((N : Int) - 1) = (M : Int) := by rw [IntWalk.i64_in _ (by omega)]; omega
  have hm0 : (0 : Int) ≤ (M : Int) := by omega
  have hmN : (M : Int) < (N : Int) := by omega
  have hmN2 : (M : Int) ≤ (N : Int) := by omega
  have hmc : (M : Int) ≤ (cp : Int) := by omega
  have hdi : decide ((i : Int) < (k : Int)) = false := by simp; omega
  have hki : (k : Int) ≤ (n : Int) := by omega
  have hkc : (k : Int) ≤ (cap : Int) := by omega
  have hk00 : (0 : Int) ≤ (k : Int) := by omega
  have hnc : (n : Int) ≤ (cap : Int) := by omega
  have hck : cap ≠ k := by omega
  have hcm1 : cap - k ≤ maxLen := by unfold maxLen; omega
  have ht1 : (l.take k).length ≤ cap := by rw [← HLA.out]; omega
  have ht2 : (l.drop k).length ≤ cap - k := by rw [← HDA.out]; omega
  have hMc : M ≤ cp := by omega
  have hkcap : k ≤ cap := by omega
  have hnkc : n - k ≤ cap - k := by omega
  have hwn : IntKind.i64.wrap ((n : Int) - (k : Int)) = ((n - k : Nat) : Int) := by rw [IntWalk.i64_in _ (by omega)]; omega
  have hwi : IntKind.i64.wrap ((i : Int) - (k : Int)) = ((i - k : Nat) : Int) := by rw [IntWalk.i64_in _ (by omega)]; omega
  obtain ⟨w0, hw0⟩ : ∃ w0, w.alloc (.cells #[.int .u32 f.d0, .int .u32 f.d1, .int .u32 f.d2, .int .u32 f.d3] 26) = w0 := ⟨_, rfl⟩
  have hB0 : Below w.heap.size w w0 := by rw [← hw0]; exact (Below.refl _ _).alloc (Nat.le_refl _) _
  have hF0 : Arr .u32 26 w.heap.size f.toL w0 := by rw [← hw0]; exact heap_alloc_new w _
  have hs0 : w0.heap.size = w.heap.size + 1 := by rw [← hw0]; simp
  obtain ⟨c0, c1, c2, c3⟩ := hy0.on hB0 hpb
  go_enter Tryd.func25, Tryd.ntmps25
  go_wp2_with fail
  clear hw0
  refine (half_val n k w0 hle HK.out).mono ?_
  rintro e w0 ⟨rfl, rfl⟩
  go_upto_region 6 with fail
  have hY1 : Arr .u32 26 (w.heap.size + 1) y.toL (w0.alloc (.cells #[.int .u32 y.d0, .int .u32 y.d1, .int .u32 y.d2, .int .u32 y.d3] 26)) := by rw [← hs0]; exact heap_alloc_new w0 _
  have hF1 := hF0.al (.cells #[.int .u32 y.d0, .int .u32 y.d1, .int .u32 y.d2, .int .u32 y.d3] 26)
  have hB1 := hB0.alloc hB0.size (.cells #[.int .u32 y.d0, .int .u32 y.d1, .int .u32 y.d2, .int .u32 y.d3] 26)
  generalize w0.alloc (.cells #[.int .u32 y.d0, .int .u32 y.d1, .int .u32 y.d2, .int .u32 y.d3] 26) = w1 at *
  have hr1 := hr.on hB1
  have hYlt1 := hY1.lt
  clear hF0 hB0 hs0 c0 c1 c2 c3 hy0
  go_cut [12] from 19 (fun p wx => ∃ X, p = .pointer (some ⟨X, 0, none⟩) ∧ w1.heap.size ≤ X ∧ Arr .u32 41 X (both8 x z).toL wx ∧ Below w1.heap.size w1 wx)
  case first =>
    have hrd : RdL w1.drew b o l := hr1
    have hBd : Below w1.heap.size w1 w1.drew := (Below.refl _ _).drew
    obtain ⟨wn, hwn⟩ : ∃ wn, (w1.alloc (.cells #[.int .u32 0, .int .u32 0, .int .u32 0, .int .u32 0, .int .u32 0, .int .u32 0, .int .u32 0, .int .u32 0] 41)).drew = wn := ⟨_, rfl⟩
    have hNn : Arr .u32 41 w1.heap.size nilS.toL wn := by rw [← hwn]; exact heap_alloc_new w1 _
    have hBn : Below w1.heap.size w1 wn := by rw [← hwn]; exact ((Below.refl _ _).alloc (Nat.le_refl _) _).drew
    have hrn : RdL wn b o l := (hr1).on hBn
    go_region_held3 (fun _ => True)
      (trivial)
      (first
        | (go_at_call 14; (with_reducible refine (root_val _ HRA1 x b o k cap _ (hrd.take k) HLA.out ht1 hcm HXX.out).mono ?_); rintro e v1 ⟨rfl, hA1⟩; have hB1 := hBd.trans (hA1.mono hBd.size); have hr1 := hrd.on hA1)
        | (go_at_call 14; (with_reducible refine (root_val _ HRA1 x b o k cap _ (hrn.take k) HLA.out ht1 hcm HXX.out).mono ?_); rintro e v1 ⟨rfl, hA1⟩; have hB1 := hBn.trans (hA1.mono hBn.size); have hr1 := hrn.on hA1; have hN1 := hNn.on hA1)
        | (go_at_call 14; (with_reducible refine (root_val _ HRA2 z b (o + k * 4) (n - k) (cap - k) _ (hr1.drop k) HDA.out ht2 hcm1 HZZ.out).mono ?_); rintro e v2 ⟨rfl, hA2⟩; have hB2 := hB1.trans (hA2.mono hB1.size); (try (have hN2 := hN1.on hA2; obtain ⟨k0, k1, k2, k3, k4, k5, k6, k7⟩ := Arr.c8 (y := nilS) hN2; obtain ⟨f0, f1, f2, f3, f4, f5, f6, f7⟩ := hN2.f8)))
        | (go_at_call 14; (with_reducible refine (root_val _ HRA2 z b (o + k * 4) (n - k) (cap - k) _ ((rdl_al hr1 (.cells #[.int .u32 0, .int .u32 0, .int .u32 0, .int .u32 0, .int .u32 0, .int .u32 0, .int .u32 0, .int .u32 0] 41)).drop k) HDA.out ht2 hcm1 HZZ.out).mono ?_); rintro e v2 ⟨rfl, hA2⟩; have hB2 := (hB1.alloc hB1.size (.cells #[.int .u32 0, .int .u32 0, .int .u32 0, .int .u32 0, .int .u32 0, .int .u32 0, .int .u32 0, .int .u32 0] 41)).trans (hA2.mono (hB1.alloc hB1.size (.cells #[.int .u32 0, .int .u32 0, .int .u32 0, .int .u32 0, .int .u32 0, .int .u32 0, .int .u32 0, .int .u32 0] 41)).size); have hN2 := new8 hA2; obtain ⟨k0, k1, k2, k3, k4, k5, k6, k7⟩ := Arr.c8 (y := nilS) hN2; obtain ⟨f0, f1, f2, f3, f4, f5, f6, f7⟩ := hN2.f8))
    all_goals
      go_wp2_with fail
      go_meet
      first
        | exact ⟨_, rfl, hB2.size, al8 x z v2, hB2.alloc hB2.size _⟩
        | exact ⟨_, rfl, hB1.size, putB8 hN2 rfl, below_putB8 hB2 hB1.size x z⟩
        | exact ⟨_, rfl, Nat.le_refl _, putB8 hN2 rfl, below_putB8 hB2 (Nat.le_refl _) x z⟩
  case rest =>
  obtain ⟨X, rfl, hXge, hX, hBx⟩ := hcut
  generalize wc = w2 at *
  have hY2 := hY1.on hBx
  have hF2 := hF1.on hBx
  have hB2 := hB1.trans (hBx.mono hB1.size)
  have hXlt := hX.lt
  clear hY1 hF1 hB1 hBx hr1
  obtain ⟨f0, f1, f2, f3⟩ := Arr.c4 hF2
  go_wp2_with fail
  refine (up_gen r hro v true (n - k) (i - k) f (some ⟨bp, op, none⟩) M cp _ _ w2 rfl rfl (by omega) (by omega) (by omega) hfo (fun _ => ⟨bp, op, rfl, hrd0.on hB2⟩) HM.out.symm (by rw [HM.out]; exact hMc) hcpm' HV.out).mono ?_
  rintro e w3 ⟨rfl, hA3⟩
  have hX3 := hX.on hA3
  have hY3 := hY2.on hA3
  have hF3 := hF2.on hA3
  have hB3 := hB2.trans (hA3.mono hB2.size)
  clear hX hY2 hF2 hB2 hA3 f0 f1 f2 f3
  obtain ⟨y0, y1, y2, y3⟩ := Arr.c4 hY3
  have hylt := hY3.lt
  have hxlt := hX3.lt
  go_wp2_with fail
  have hW4 : Arr .u32 41 (w3.heap.size + 1) (both8 y v).toL ((w3.alloc (.cells #[.int .u32 v.d0, .int .u32 v.d1, .int .u32 v.d2, .int .u32 v.d3] 26)).alloc (.cells #[.int .u32 y.d0, .int .u32 y.d1, .int .u32 y.d2, .int .u32 y.d3, .int .u32 v.d0, .int .u32 v.d1, .int .u32 v.d2, .int .u32 v.d3] 41)) := by
    have := al8 y v (w3.alloc (.cells #[.int .u32 v.d0, .int .u32 v.d1, .int .u32 v.d2, .int .u32 v.d3] 26))
    rw [show (w3.alloc (.cells #[.int .u32 v.d0, .int .u32 v.d1, .int .u32 v.d2, .int .u32 v.d3] 26)).heap.size = w3.heap.size + 1 by simp] at this
    exact this
  have hX4 := (hX3.al (.cells #[.int .u32 v.d0, .int .u32 v.d1, .int .u32 v.d2, .int .u32 v.d3] 26)).al (.cells #[.int .u32 y.d0, .int .u32 y.d1, .int .u32 y.d2, .int .u32 y.d3, .int .u32 v.d0, .int .u32 v.d1, .int .u32 v.d2, .int .u32 v.d3] 41)
  have hF4 := (hF3.al (.cells #[.int .u32 v.d0, .int .u32 v.d1, .int .u32 v.d2, .int .u32 v.d3] 26)).al (.cells #[.int .u32 y.d0, .int .u32 y.d1, .int .u32 y.d2, .int .u32 y.d3, .int .u32 v.d0, .int .u32 v.d1, .int .u32 v.d2, .int .u32 v.d3] 41)
  have hB4 := (hB3.alloc hB3.size (.cells #[.int .u32 v.d0, .int .u32 v.d1, .int .u32 v.d2, .int .u32 v.d3] 26)).alloc (by have := hB3.size; simp; omega) (.cells #[.int .u32 y.d0, .int .u32 y.d1, .int .u32 y.d2, .int .u32 y.d3, .int .u32 v.d0, .int .u32 v.d1, .int .u32 v.d2, .int .u32 v.d3] 41)
  generalize (w3.alloc (.cells #[.int .u32 v.d0, .int .u32 v.d1, .int .u32 v.d2, .int .u32 v.d3] 26)).alloc (.cells #[.int .u32 y.d0, .int .u32 y.d1, .int .u32 y.d2, .int .u32 y.d3, .int .u32 v.d0, .int .u32 v.d1, .int .u32 v.d2, .int .u32 v.d3] 41) = w4 at *
  have hX5 : Arr .u32 41 X (both8 x z).toL w4.drew := hX4
  have hW5 : Arr .u32 41 (w3.heap.size + 1) (both8 y v).toL w4.drew := hW4
  have hF5 : Arr .u32 26 w.heap.size f.toL w4.drew := hF4
  have hBd := hB4.drew
  have X8 := Arr.c8 hX5
  have Y8 := Arr.c8 hW5
  have F4 := Arr.c4 hF5
  simp only [both8] at X8 Y8
  have HS0 : Hid (w4.drew.cell? ⟨X, 0, none⟩ = some (.int .u32 x.d0) ∧ w4.drew.cell? ⟨X, 1, none⟩ = some (.int .u32 x.d1) ∧ w4.drew.cell? ⟨X, 2, none⟩ = some (.int .u32 x.d2) ∧ w4.drew.cell? ⟨X, 3, none⟩ = some (.int .u32 x.d3) ∧ w4.drew.cell? ⟨X, 4, none⟩ = some (.int .u32 z.d0) ∧ w4.drew.cell? ⟨X, 5, none⟩ = some (.int .u32 z.d1) ∧ w4.drew.cell? ⟨X, 6, none⟩ = some (.int .u32 z.d2) ∧ w4.drew.cell? ⟨X, 7, none⟩ = some (.int .u32 z.d3) ∧ w4.drew.cell? ⟨w3.heap.size + 1, 0, none⟩ = some (.int .u32 y.d0) ∧ w4.drew.cell? ⟨w3.heap.size + 1, 1, none⟩ = some (.int .u32 y.d1) ∧ w4.drew.cell? ⟨w3.heap.size + 1, 2, none⟩ = some (.int .u32 y.d2) ∧ w4.drew.cell? ⟨w3.heap.size + 1, 3, none⟩ = some (.int .u32 y.d3) ∧ w4.drew.cell? ⟨w3.heap.size + 1, 4, none⟩ = some (.int .u32 v.d0) ∧ w4.drew.cell? ⟨w3.heap.size + 1, 5, none⟩ = some (.int .u32 v.d1) ∧ w4.drew.cell? ⟨w3.heap.size + 1, 6, none⟩ = some (.int .u32 v.d2) ∧ w4.drew.cell? ⟨w3.heap.size + 1, 7, none⟩ = some (.int .u32 v.d3) ∧ w4.drew.cell? ⟨w.heap.size, 0, none⟩ = some (.int .u32 f.d0) ∧ w4.drew.cell? ⟨w.heap.size, 1, none⟩ = some (.int .u32 f.d1) ∧ w4.drew.cell? ⟨w.heap.size, 2, none⟩ = some (.int .u32 f.d2) ∧ w4.drew.cell? ⟨w.heap.size, 3, none⟩ = some (.int .u32 f.d3)) := ⟨X8.1, X8.2.1, X8.2.2.1, X8.2.2.2.1, X8.2.2.2.2.1, X8.2.2.2.2.2.1, X8.2.2.2.2.2.2.1, X8.2.2.2.2.2.2.2, Y8.1, Y8.2.1, Y8.2.2.1, Y8.2.2.2.1, Y8.2.2.2.2.1, Y8.2.2.2.2.2.1, Y8.2.2.2.2.2.2.1, Y8.2.2.2.2.2.2.2, F4⟩
  have hrd5 := hr.on hBd
  have hrp5 : RdS w4.drew (some ⟨bp, op, none⟩) r := fun _ => ⟨bp, op, rfl, hrd0.on hBd⟩
  clear hX3 hY3 hF3 hB3 hX4 hW4 hF4 hB4 hX5 hW5 hF5 X8 Y8 F4 y0 y1 y2 y3 hrd0 hr
  cases bl
  ·
    refine wp_region_held_drew (S := fun w' => w'.cell? ⟨X, 0, none⟩ = some (.int .u32 x.d0) ∧ w'.cell? ⟨X, 1, none⟩ = some (.int .u32 x.d1) ∧ w'.cell? ⟨X, 2, none⟩ = some (.int .u32 x.d2) ∧ w'.cell? ⟨X, 3, none⟩ = some (.int .u32 x.d3) ∧ w'.cell? ⟨X, 4, none⟩ = some (.int .u32 z.d0) ∧ w'.cell? ⟨X, 5, none⟩ = some (.int .u32 z.d1) ∧ w'.cell? ⟨X, 6, none⟩ = some (.int .u32 z.d2) ∧ w'.cell? ⟨X, 7, none⟩ = some (.int .u32 z.d3) ∧ w'.cell? ⟨w3.heap.size + 1, 0, none⟩ = some (.int .u32 y.d0) ∧ w'.cell? ⟨w3.heap.size + 1, 1, none⟩ = some (.int .u32 y.d1) ∧ w'.cell? ⟨w3.heap.size + 1, 2, none⟩ = some (.int .u32 y.d2) ∧ w'.cell? ⟨w3.heap.size + 1, 3, none⟩ = some (.int .u32 y.d3) ∧ w'.cell? ⟨w3.heap.size + 1, 4, none⟩ = some (.int .u32 v.d0) ∧ w'.cell? ⟨w3.heap.size + 1, 5, none⟩ = some (.int .u32 v.d1) ∧ w'.cell? ⟨w3.heap.size + 1, 6, none⟩ = some (.int .u32 v.d2) ∧ w'.cell? ⟨w3.heap.size + 1, 7, none⟩ = some (.int .u32 v.d3) ∧ w'.cell? ⟨w.heap.size, 0, none⟩ = some (.int .u32 f.d0) ∧ w'.cell? ⟨w.heap.size, 1, none⟩ = some (.int .u32 f.d1) ∧ w'.cell? ⟨w.heap.size, 2, none⟩ = some (.int .u32 f.d2) ∧ w'.cell? ⟨w.heap.size, 3, none⟩ = some (.int .u32 f.d3)) (by kernel_rfl) (HS0.out) (fun hHeld => ?_)
    refine wpAnyH_take (i := 0) (oi := _) (v := ?vvd0) rfl (by kernel_rfl) (by kernel_rfl) (by kernel_rfl) (fun _ _ _ h => h) (Or.inl ⟨by kernel_rfl, ?hyd0⟩) hHeld ?restd0
    case hyd0 => intro w hSw; (try dsimp only at hSw); (try go_split_ands); go_simp; try with_reducible rfl
    try simp only [List.getElem_toArray, List.getElem_cons_zero, Act.put, List.setIfInBounds_toArray, List.set_cons_zero, List.set_cons_succ]
    refine wpAnyH_take (i := 1) (oi := _) (v := ?vvd1) rfl (by kernel_rfl) (by kernel_rfl) (by kernel_rfl) (fun _ _ _ h => h) (Or.inl ⟨by kernel_rfl, ?hyd1⟩) hHeld ?restd1
    case hyd1 => intro w hSw; (try dsimp only at hSw); (try go_split_ands); go_simp; try with_reducible rfl
    try simp only [List.getElem_toArray, List.getElem_cons_succ, List.getElem_cons_zero, Act.put, List.setIfInBounds_toArray, List.set_cons_zero, List.set_cons_succ]
    refine wpAnyH_take (i := 2) (oi := _) (v := ?vvd2) rfl (by kernel_rfl) (by kernel_rfl) (by kernel_rfl) (fun _ _ _ h => h) (Or.inl ⟨by kernel_rfl, ?hyd2⟩) hHeld ?restd2
    case hyd2 => intro w hSw; (try dsimp only at hSw); (try go_split_ands); go_simp; try with_reducible rfl
    try simp only [List.getElem_toArray, List.getElem_cons_succ, List.getElem_cons_zero, Act.put, List.setIfInBounds_toArray, List.set_cons_zero, List.set_cons_succ]
    refine wpAnyH_take (i := 3) (oi := _) (v := ?vvd3) rfl (by kernel_rfl) (by kernel_rfl) (by kernel_rfl) (fun _ _ _ h => h) (Or.inl ⟨by kernel_rfl, ?hyd3⟩) hHeld ?restd3
    case hyd3 => intro w hSw; (try dsimp only at hSw); (try go_split_ands); go_simp; try with_reducible rfl
    try simp only [List.getElem_toArray, List.getElem_cons_succ, List.getElem_cons_zero, Act.put, List.setIfInBounds_toArray, List.set_cons_zero, List.set_cons_succ]
    refine wpAnyH_take (i := 4) (oi := _) (v := ?vvd4) rfl (by kernel_rfl) (by kernel_rfl) (by kernel_rfl) (fun _ _ _ h => h) (Or.inl ⟨by kernel_rfl, ?hyd4⟩) hHeld ?restd4
    case hyd4 => intro w hSw; (try dsimp only at hSw); (try go_split_ands); go_simp; try with_reducible rfl
    try simp only [List.getElem_toArray, List.getElem_cons_succ, List.getElem_cons_zero, Act.put, List.setIfInBounds_toArray, List.set_cons_zero, List.set_cons_succ]
    refine wpAnyH_take (i := 5) (oi := _) (v := ?vvd5) rfl (by kernel_rfl) (by kernel_rfl) (by kernel_rfl) (fun _ _ _ h => h) (Or.inl ⟨by kernel_rfl, ?hyd5⟩) hHeld ?restd5
    case hyd5 => intro w hSw; (try dsimp only at hSw); (try go_split_ands); go_simp; try with_reducible rfl
    try simp only [List.getElem_toArray, List.getElem_cons_succ, List.getElem_cons_zero, Act.put, List.setIfInBounds_toArray, List.set_cons_zero, List.set_cons_succ]
    refine wpAnyH_take (i := 6) (oi := _) (v := ?vvd6) rfl (by kernel_rfl) (by kernel_rfl) (by kernel_rfl) (fun _ _ _ h => h) (Or.inl ⟨by kernel_rfl, ?hyd6⟩) hHeld ?restd6
    case hyd6 => intro w hSw; (try dsimp only at hSw); (try go_split_ands); go_simp; try with_reducible rfl
    try simp only [List.getElem_toArray, List.getElem_cons_succ, List.getElem_cons_zero, Act.put, List.setIfInBounds_toArray, List.set_cons_zero, List.set_cons_succ]
    refine wpAnyH_take (i := 7) (oi := _) (v := ?vvd7) rfl (by kernel_rfl) (by kernel_rfl) (by kernel_rfl) (fun _ _ _ h => h) (Or.inl ⟨by kernel_rfl, ?hyd7⟩) hHeld ?restd7
    case hyd7 => intro w hSw; (try dsimp only at hSw); (try go_split_ands); go_simp; try with_reducible rfl
    try simp only [List.getElem_toArray, List.getElem_cons_succ, List.getElem_cons_zero, Act.put, List.setIfInBounds_toArray, List.set_cons_zero, List.set_cons_succ]
    refine wpAnyH_take (i := 9) (oi := _) (v := ?vvd8) rfl (by kernel_rfl) (by kernel_rfl) (by kernel_rfl) (fun _ _ _ h => h) (Or.inl ⟨by kernel_rfl, ?hyd8⟩) hHeld ?restd8
    case hyd8 => intro w hSw; (try dsimp only at hSw); (try go_split_ands); go_simp; try with_reducible rfl
    try simp only [List.getElem_toArray, List.getElem_cons_succ, List.getElem_cons_zero, Act.put, List.setIfInBounds_toArray, List.set_cons_zero, List.set_cons_succ]
    refine wpAnyH_take (i := 10) (oi := _) (v := ?vvd9) rfl (by kernel_rfl) (by kernel_rfl) (by kernel_rfl) (fun _ _ _ h => h) (Or.inl ⟨by kernel_rfl, ?hyd9⟩) hHeld ?restd9
    case hyd9 => intro w hSw; (try dsimp only at hSw); (try go_split_ands); go_simp; try with_reducible rfl
    try simp only [List.getElem_toArray, List.getElem_cons_succ, List.getElem_cons_zero, Act.put, List.setIfInBounds_toArray, List.set_cons_zero, List.set_cons_succ]
    refine wpAnyH_take (i := 11) (oi := _) (v := ?vvd10) rfl (by kernel_rfl) (by kernel_rfl) (by kernel_rfl) (fun _ _ _ h => h) (Or.inl ⟨by kernel_rfl, ?hyd10⟩) hHeld ?restd10
    case hyd10 => intro w hSw; (try dsimp only at hSw); (try go_split_ands); go_simp; try with_reducible rfl
    try simp only [List.getElem_toArray, List.getElem_cons_succ, List.getElem_cons_zero, Act.put, List.setIfInBounds_toArray, List.set_cons_zero, List.set_cons_succ]
    refine wpAnyH_take (i := 12) (oi := _) (v := ?vvd11) rfl (by kernel_rfl) (by kernel_rfl) (by kernel_rfl) (fun _ _ _ h => h) (Or.inl ⟨by kernel_rfl, ?hyd11⟩) hHeld ?restd11
    case hyd11 => intro w hSw; (try dsimp only at hSw); (try go_split_ands); go_simp; try with_reducible rfl
    try simp only [List.getElem_toArray, List.getElem_cons_succ, List.getElem_cons_zero, Act.put, List.setIfInBounds_toArray, List.set_cons_zero, List.set_cons_succ]
    refine wpAnyH_ready (rs := [8]) (by kernel_rfl) (by simp) ?_
    refine AllReadyH.cons (o := _) rfl (fun K hK => ?_) AllReadyH.nil
    go_simp
    go_at_call 24; (with_reducible refine (rpair_val x z g _ hxo hzo HG1.out).mono ?_); rintro e w5 ⟨rfl, hA5⟩; have hB5 := hBd.trans (hA5.mono hBd.size)
    go_wp2_with fail
    refine hK.out _ _ (keep20 hA5 hHeld) (fun hHeld => ?_)
    clear hK K
    try simp only [List.getElem_toArray, List.getElem_cons_succ, List.getElem_cons_zero, Act.put, List.setIfInBounds_toArray, List.set_cons_zero, List.set_cons_succ]
    refine wpAnyH_ready (rs := [13]) (by kernel_rfl) (by simp) ?_
    refine AllReadyH.cons (o := _) rfl (fun K hK => ?_) AllReadyH.nil
    go_simp
    go_at_call 24; (with_reducible refine (rpair_val y v g _ hyo hvo HG2.out).mono ?_); rintro e w6 ⟨rfl, hA6⟩; have hB6 := hB5.trans (hA6.mono hB5.size)
    go_wp2_with fail
    refine hK.out _ _ (keep20 hA6 hHeld) (fun hHeld => ?_)
    clear hK K
    try simp only [List.getElem_toArray, List.getElem_cons_succ, List.getElem_cons_zero, Act.put, List.setIfInBounds_toArray, List.set_cons_zero, List.set_cons_succ]
    refine wpAnyH_take (i := 14) (oi := _) (v := ?vvd14) rfl (by kernel_rfl) (by kernel_rfl) (by kernel_rfl) (fun _ _ _ h => h) (Or.inl ⟨by kernel_rfl, ?hyd14⟩) hHeld ?restd14
    case hyd14 => intro w hSw; (try dsimp only at hSw); (try go_split_ands); go_simp; try with_reducible rfl
    try simp only [List.getElem_toArray, List.getElem_cons_succ, List.getElem_cons_zero, Act.put, List.setIfInBounds_toArray, List.set_cons_zero, List.set_cons_succ]
    refine wpAnyH_take (i := 15) (oi := _) (v := ?vvd15) rfl (by kernel_rfl) (by kernel_rfl) (by kernel_rfl) (fun _ _ _ h => h) (Or.inl ⟨by kernel_rfl, ?hyd15⟩) hHeld ?restd15
    case hyd15 => intro w hSw; (try dsimp only at hSw); (try go_split_ands); go_simp; try with_reducible rfl
    try simp only [List.getElem_toArray, List.getElem_cons_succ, List.getElem_cons_zero, Act.put, List.setIfInBounds_toArray, List.set_cons_zero, List.set_cons_succ]
    refine wpAnyH_take (i := 16) (oi := _) (v := ?vvd16) rfl (by kernel_rfl) (by kernel_rfl) (by kernel_rfl) (fun _ _ _ h => h) (Or.inl ⟨by kernel_rfl, ?hyd16⟩) hHeld ?restd16
    case hyd16 => intro w hSw; (try dsimp only at hSw); (try go_split_ands); go_simp; try with_reducible rfl
    try simp only [List.getElem_toArray, List.getElem_cons_succ, List.getElem_cons_zero, Act.put, List.setIfInBounds_toArray, List.set_cons_zero, List.set_cons_succ]
    refine wpAnyH_take (i := 17) (oi := _) (v := undef) rfl (by kernel_rfl) (by kernel_rfl) (by kernel_rfl) (fun _ _ _ h => h) (Or.inr ⟨by kernel_rfl, rfl⟩) hHeld ?restd17
    try simp only [List.getElem_toArray, List.getElem_cons_succ, List.getElem_cons_zero, Act.put, List.setIfInBounds_toArray, List.set_cons_zero, List.set_cons_succ]
    refine wpAnyH_take (i := 18) (oi := _) (v := undef) rfl (by kernel_rfl) (by kernel_rfl) (by kernel_rfl) (fun _ _ _ h => h) (Or.inr ⟨by kernel_rfl, rfl⟩) hHeld ?restd18
    try simp only [List.getElem_toArray, List.getElem_cons_succ, List.getElem_cons_zero, Act.put, List.setIfInBounds_toArray, List.set_cons_zero, List.set_cons_succ]
    refine wpAnyH_take (i := 19) (oi := _) (v := undef) rfl (by kernel_rfl) (by kernel_rfl) (by kernel_rfl) (fun _ _ _ h => h) (Or.inr ⟨by kernel_rfl, rfl⟩) hHeld ?restd19
    try simp only [List.getElem_toArray, List.getElem_cons_succ, List.getElem_cons_zero, Act.put, List.setIfInBounds_toArray, List.set_cons_zero, List.set_cons_succ]
    refine wpAnyH_take (i := 20) (oi := _) (v := undef) rfl (by kernel_rfl) (by kernel_rfl) (by kernel_rfl) (fun _ _ _ h => h) (Or.inr ⟨by kernel_rfl, rfl⟩) hHeld ?restd20
    try simp only [List.getElem_toArray, List.getElem_cons_succ, List.getElem_cons_zero, Act.put, List.setIfInBounds_toArray, List.set_cons_zero, List.set_cons_succ]
    refine wpAnyH_take (i := 21) (oi := _) (v := undef) rfl (by kernel_rfl) (by kernel_rfl) (by kernel_rfl) (fun _ _ _ h => h) (Or.inr ⟨by kernel_rfl, rfl⟩) hHeld ?restd21
    try simp only [List.getElem_toArray, List.getElem_cons_succ, List.getElem_cons_zero, Act.put, List.setIfInBounds_toArray, List.set_cons_zero, List.set_cons_succ]
    refine wpAnyH_take (i := 22) (oi := _) (v := undef) rfl (by kernel_rfl) (by kernel_rfl) (by kernel_rfl) (fun _ _ _ h => h) (Or.inr ⟨by kernel_rfl, rfl⟩) hHeld ?restd22
    try simp only [List.getElem_toArray, List.getElem_cons_succ, List.getElem_cons_zero, Act.put, List.setIfInBounds_toArray, List.set_cons_zero, List.set_cons_succ]
    refine wpAnyH_take (i := 23) (oi := _) (v := undef) rfl (by kernel_rfl) (by kernel_rfl) (by kernel_rfl) (fun _ _ _ h => h) (Or.inr ⟨by kernel_rfl, rfl⟩) hHeld ?restd23
    try simp only [List.getElem_toArray, List.getElem_cons_succ, List.getElem_cons_zero, Act.put, List.setIfInBounds_toArray, List.set_cons_zero, List.set_cons_succ]
    refine wpAnyH_take (i := 24) (oi := _) (v := undef) rfl (by kernel_rfl) (by kernel_rfl) (by kernel_rfl) (fun _ _ _ h => h) (Or.inr ⟨by kernel_rfl, rfl⟩) hHeld ?restd24
    try simp only [List.getElem_toArray, List.getElem_cons_succ, List.getElem_cons_zero, Act.put, List.setIfInBounds_toArray, List.set_cons_zero, List.set_cons_succ]
    refine wpAnyH_take (i := 25) (oi := _) (v := undef) rfl (by kernel_rfl) (by kernel_rfl) (by kernel_rfl) (fun _ _ _ h => h) (Or.inr ⟨by kernel_rfl, rfl⟩) hHeld ?restd25
    try simp only [List.getElem_toArray, List.getElem_cons_succ, List.getElem_cons_zero, Act.put, List.setIfInBounds_toArray, List.set_cons_zero, List.set_cons_succ]
    refine wpAnyH_take (i := 26) (oi := _) (v := ?vvd26) rfl (by kernel_rfl) (by kernel_rfl) (by kernel_rfl) (fun _ _ _ h => h) (Or.inl ⟨by kernel_rfl, ?hyd26⟩) hHeld ?restd26
    case hyd26 => intro w hSw; (try dsimp only at hSw); (try go_split_ands); go_simp; try with_reducible rfl
    try simp only [List.getElem_toArray, List.getElem_cons_succ, List.getElem_cons_zero, Act.put, List.setIfInBounds_toArray, List.set_cons_zero, List.set_cons_succ]
    refine wpAnyH_take (i := 27) (oi := _) (v := ?vvd27) rfl (by kernel_rfl) (by kernel_rfl) (by kernel_rfl) (fun _ _ _ h => h) (Or.inl ⟨by kernel_rfl, ?hyd27⟩) hHeld ?restd27
    case hyd27 => intro w hSw; (try dsimp only at hSw); (try go_split_ands); go_simp; try with_reducible rfl
    try simp only [List.getElem_toArray, List.getElem_cons_succ, List.getElem_cons_zero, Act.put, List.setIfInBounds_toArray, List.set_cons_zero, List.set_cons_succ]
    refine wpAnyH_done (by kernel_rfl) ?_ _
    go_wp2
    go_ret
    exact ⟨rfl, hB6⟩
  ·
    refine wp_region_held_drew (S := fun w' => w'.cell? ⟨X, 0, none⟩ = some (.int .u32 x.d0) ∧ w'.cell? ⟨X, 1, none⟩ = some (.int .u32 x.d1) ∧ w'.cell? ⟨X, 2, none⟩ = some (.int .u32 x.d2) ∧ w'.cell? ⟨X, 3, none⟩ = some (.int .u32 x.d3) ∧ w'.cell? ⟨X, 4, none⟩ = some (.int .u32 z.d0) ∧ w'.cell? ⟨X, 5, none⟩ = some (.int .u32 z.d1) ∧ w'.cell? ⟨X, 6, none⟩ = some (.int .u32 z.d2) ∧ w'.cell? ⟨X, 7, none⟩ = some (.int .u32 z.d3) ∧ w'.cell? ⟨w3.heap.size + 1, 0, none⟩ = some (.int .u32 y.d0) ∧ w'.cell? ⟨w3.heap.size + 1, 1, none⟩ = some (.int .u32 y.d1) ∧ w'.cell? ⟨w3.heap.size + 1, 2, none⟩ = some (.int .u32 y.d2) ∧ w'.cell? ⟨w3.heap.size + 1, 3, none⟩ = some (.int .u32 y.d3) ∧ w'.cell? ⟨w3.heap.size + 1, 4, none⟩ = some (.int .u32 v.d0) ∧ w'.cell? ⟨w3.heap.size + 1, 5, none⟩ = some (.int .u32 v.d1) ∧ w'.cell? ⟨w3.heap.size + 1, 6, none⟩ = some (.int .u32 v.d2) ∧ w'.cell? ⟨w3.heap.size + 1, 7, none⟩ = some (.int .u32 v.d3) ∧ w'.cell? ⟨w.heap.size, 0, none⟩ = some (.int .u32 f.d0) ∧ w'.cell? ⟨w.heap.size, 1, none⟩ = some (.int .u32 f.d1) ∧ w'.cell? ⟨w.heap.size, 2, none⟩ = some (.int .u32 f.d2) ∧ w'.cell? ⟨w.heap.size, 3, none⟩ = some (.int .u32 f.d3)) (by kernel_rfl) (HS0.out) (fun hHeld => ?_)
    refine wpAnyH_take (i := 0) (oi := _) (v := ?vve0) rfl (by kernel_rfl) (by kernel_rfl) (by kernel_rfl) (fun _ _ _ h => h) (Or.inl ⟨by kernel_rfl, ?hye0⟩) hHeld ?reste0
    case hye0 => intro w hSw; (try dsimp only at hSw); (try go_split_ands); go_simp; try with_reducible rfl
    try simp only [List.getElem_toArray, List.getElem_cons_zero, Act.put, List.setIfInBounds_toArray, List.set_cons_zero, List.set_cons_succ]
    refine wpAnyH_take (i := 1) (oi := _) (v := ?vve1) rfl (by kernel_rfl) (by kernel_rfl) (by kernel_rfl) (fun _ _ _ h => h) (Or.inl ⟨by kernel_rfl, ?hye1⟩) hHeld ?reste1
    case hye1 => intro w hSw; (try dsimp only at hSw); (try go_split_ands); go_simp; try with_reducible rfl
    try simp only [List.getElem_toArray, List.getElem_cons_succ, List.getElem_cons_zero, Act.put, List.setIfInBounds_toArray, List.set_cons_zero, List.set_cons_succ]
    refine wpAnyH_take (i := 2) (oi := _) (v := ?vve2) rfl (by kernel_rfl) (by kernel_rfl) (by kernel_rfl) (fun _ _ _ h => h) (Or.inl ⟨by kernel_rfl, ?hye2⟩) hHeld ?reste2
    case hye2 => intro w hSw; (try dsimp only at hSw); (try go_split_ands); go_simp; try with_reducible rfl
    try simp only [List.getElem_toArray, List.getElem_cons_succ, List.getElem_cons_zero, Act.put, List.setIfInBounds_toArray, List.set_cons_zero, List.set_cons_succ]
    refine wpAnyH_take (i := 3) (oi := _) (v := ?vve3) rfl (by kernel_rfl) (by kernel_rfl) (by kernel_rfl) (fun _ _ _ h => h) (Or.inl ⟨by kernel_rfl, ?hye3⟩) hHeld ?reste3
    case hye3 => intro w hSw; (try dsimp only at hSw); (try go_split_ands); go_simp; try with_reducible rfl
    try simp only [List.getElem_toArray, List.getElem_cons_succ, List.getElem_cons_zero, Act.put, List.setIfInBounds_toArray, List.set_cons_zero, List.set_cons_succ]
    refine wpAnyH_take (i := 4) (oi := _) (v := undef) rfl (by kernel_rfl) (by kernel_rfl) (by kernel_rfl) (fun _ _ _ h => h) (Or.inr ⟨by kernel_rfl, rfl⟩) hHeld ?reste4
    try simp only [List.getElem_toArray, List.getElem_cons_succ, List.getElem_cons_zero, Act.put, List.setIfInBounds_toArray, List.set_cons_zero, List.set_cons_succ]
    refine wpAnyH_take (i := 5) (oi := _) (v := undef) rfl (by kernel_rfl) (by kernel_rfl) (by kernel_rfl) (fun _ _ _ h => h) (Or.inr ⟨by kernel_rfl, rfl⟩) hHeld ?reste5
    try simp only [List.getElem_toArray, List.getElem_cons_succ, List.getElem_cons_zero, Act.put, List.setIfInBounds_toArray, List.set_cons_zero, List.set_cons_succ]
    refine wpAnyH_take (i := 6) (oi := _) (v := undef) rfl (by kernel_rfl) (by kernel_rfl) (by kernel_rfl) (fun _ _ _ h => h) (Or.inr ⟨by kernel_rfl, rfl⟩) hHeld ?reste6
    try simp only [List.getElem_toArray, List.getElem_cons_succ, List.getElem_cons_zero, Act.put, List.setIfInBounds_toArray, List.set_cons_zero, List.set_cons_succ]
    refine wpAnyH_take (i := 7) (oi := _) (v := undef) rfl (by kernel_rfl) (by kernel_rfl) (by kernel_rfl) (fun _ _ _ h => h) (Or.inr ⟨by kernel_rfl, rfl⟩) hHeld ?reste7
    try simp only [List.getElem_toArray, List.getElem_cons_succ, List.getElem_cons_zero, Act.put, List.setIfInBounds_toArray, List.set_cons_zero, List.set_cons_succ]
    refine wpAnyH_take (i := 8) (oi := _) (v := undef) rfl (by kernel_rfl) (by kernel_rfl) (by kernel_rfl) (fun _ _ _ h => h) (Or.inr ⟨by kernel_rfl, rfl⟩) hHeld ?reste8
    try simp only [List.getElem_toArray, List.getElem_cons_succ, List.getElem_cons_zero, Act.put, List.setIfInBounds_toArray, List.set_cons_zero, List.set_cons_succ]
    refine wpAnyH_take (i := 9) (oi := _) (v := undef) rfl (by kernel_rfl) (by kernel_rfl) (by kernel_rfl) (fun _ _ _ h => h) (Or.inr ⟨by kernel_rfl, rfl⟩) hHeld ?reste9
    try simp only [List.getElem_toArray, List.getElem_cons_succ, List.getElem_cons_zero, Act.put, List.setIfInBounds_toArray, List.set_cons_zero, List.set_cons_succ]
    refine wpAnyH_take (i := 10) (oi := _) (v := undef) rfl (by kernel_rfl) (by kernel_rfl) (by kernel_rfl) (fun _ _ _ h => h) (Or.inr ⟨by kernel_rfl, rfl⟩) hHeld ?reste10
    try simp only [List.getElem_toArray, List.getElem_cons_succ, List.getElem_cons_zero, Act.put, List.setIfInBounds_toArray, List.set_cons_zero, List.set_cons_succ]
    refine wpAnyH_take (i := 11) (oi := _) (v := undef) rfl (by kernel_rfl) (by kernel_rfl) (by kernel_rfl) (fun _ _ _ h => h) (Or.inr ⟨by kernel_rfl, rfl⟩) hHeld ?reste11
    try simp only [List.getElem_toArray, List.getElem_cons_succ, List.getElem_cons_zero, Act.put, List.setIfInBounds_toArray, List.set_cons_zero, List.set_cons_succ]
    refine wpAnyH_take (i := 12) (oi := _) (v := undef) rfl (by kernel_rfl) (by kernel_rfl) (by kernel_rfl) (fun _ _ _ h => h) (Or.inr ⟨by kernel_rfl, rfl⟩) hHeld ?reste12
    try simp only [List.getElem_toArray, List.getElem_cons_succ, List.getElem_cons_zero, Act.put, List.setIfInBounds_toArray, List.set_cons_zero, List.set_cons_succ]
    refine wpAnyH_take (i := 13) (oi := _) (v := undef) rfl (by kernel_rfl) (by kernel_rfl) (by kernel_rfl) (fun _ _ _ h => h) (Or.inr ⟨by kernel_rfl, rfl⟩) hHeld ?reste13
    try simp only [List.getElem_toArray, List.getElem_cons_succ, List.getElem_cons_zero, Act.put, List.setIfInBounds_toArray, List.set_cons_zero, List.set_cons_succ]
    refine wpAnyH_take (i := 14) (oi := _) (v := undef) rfl (by kernel_rfl) (by kernel_rfl) (by kernel_rfl) (fun _ _ _ h => h) (Or.inr ⟨by kernel_rfl, rfl⟩) hHeld ?reste14
    try simp only [List.getElem_toArray, List.getElem_cons_succ, List.getElem_cons_zero, Act.put, List.setIfInBounds_toArray, List.set_cons_zero, List.set_cons_succ]
    refine wpAnyH_take (i := 15) (oi := _) (v := ?vve15) rfl (by kernel_rfl) (by kernel_rfl) (by kernel_rfl) (fun _ _ _ h => h) (Or.inl ⟨by kernel_rfl, ?hye15⟩) hHeld ?reste15
    case hye15 => intro w hSw; (try dsimp only at hSw); (try go_split_ands); go_simp; try with_reducible rfl
    try simp only [List.getElem_toArray, List.getElem_cons_succ, List.getElem_cons_zero, Act.put, List.setIfInBounds_toArray, List.set_cons_zero, List.set_cons_succ]
    refine wpAnyH_take (i := 16) (oi := _) (v := ?vve16) rfl (by kernel_rfl) (by kernel_rfl) (by kernel_rfl) (fun _ _ _ h => h) (Or.inl ⟨by kernel_rfl, ?hye16⟩) hHeld ?reste16
    case hye16 => intro w hSw; (try dsimp only at hSw); (try go_split_ands); go_simp; try with_reducible rfl
    try simp only [List.getElem_toArray, List.getElem_cons_succ, List.getElem_cons_zero, Act.put, List.setIfInBounds_toArray, List.set_cons_zero, List.set_cons_succ]
    refine wpAnyH_take (i := 17) (oi := _) (v := ?vve17) rfl (by kernel_rfl) (by kernel_rfl) (by kernel_rfl) (fun _ _ _ h => h) (Or.inl ⟨by kernel_rfl, ?hye17⟩) hHeld ?reste17
    case hye17 => intro w hSw; (try dsimp only at hSw); (try go_split_ands); go_simp; try with_reducible rfl
    try simp only [List.getElem_toArray, List.getElem_cons_succ, List.getElem_cons_zero, Act.put, List.setIfInBounds_toArray, List.set_cons_zero, List.set_cons_succ]
    refine wpAnyH_take (i := 18) (oi := _) (v := ?vve18) rfl (by kernel_rfl) (by kernel_rfl) (by kernel_rfl) (fun _ _ _ h => h) (Or.inl ⟨by kernel_rfl, ?hye18⟩) hHeld ?reste18
    case hye18 => intro w hSw; (try dsimp only at hSw); (try go_split_ands); go_simp; try with_reducible rfl
    try simp only [List.getElem_toArray, List.getElem_cons_succ, List.getElem_cons_zero, Act.put, List.setIfInBounds_toArray, List.set_cons_zero, List.set_cons_succ]
    refine wpAnyH_take (i := 19) (oi := _) (v := ?vve19) rfl (by kernel_rfl) (by kernel_rfl) (by kernel_rfl) (fun _ _ _ h => h) (Or.inl ⟨by kernel_rfl, ?hye19⟩) hHeld ?reste19
    case hye19 => intro w hSw; (try dsimp only at hSw); (try go_split_ands); go_simp; try with_reducible rfl
    try simp only [List.getElem_toArray, List.getElem_cons_succ, List.getElem_cons_zero, Act.put, List.setIfInBounds_toArray, List.set_cons_zero, List.set_cons_succ]
    refine wpAnyH_take (i := 20) (oi := _) (v := ?vve20) rfl (by kernel_rfl) (by kernel_rfl) (by kernel_rfl) (fun _ _ _ h => h) (Or.inl ⟨by kernel_rfl, ?hye20⟩) hHeld ?reste20
    case hye20 => intro w hSw; (try dsimp only at hSw); (try go_split_ands); go_simp; try with_reducible rfl
    try simp only [List.getElem_toArray, List.getElem_cons_succ, List.getElem_cons_zero, Act.put, List.setIfInBounds_toArray, List.set_cons_zero, List.set_cons_succ]
    refine wpAnyH_take (i := 21) (oi := _) (v := ?vve21) rfl (by kernel_rfl) (by kernel_rfl) (by kernel_rfl) (fun _ _ _ h => h) (Or.inl ⟨by kernel_rfl, ?hye21⟩) hHeld ?reste21
    case hye21 => intro w hSw; (try dsimp only at hSw); (try go_split_ands); go_simp; try with_reducible rfl
    try simp only [List.getElem_toArray, List.getElem_cons_succ, List.getElem_cons_zero, Act.put, List.setIfInBounds_toArray, List.set_cons_zero, List.set_cons_succ]
    refine wpAnyH_take (i := 22) (oi := _) (v := ?vve22) rfl (by kernel_rfl) (by kernel_rfl) (by kernel_rfl) (fun _ _ _ h => h) (Or.inl ⟨by kernel_rfl, ?hye22⟩) hHeld ?reste22
    case hye22 => intro w hSw; (try dsimp only at hSw); (try go_split_ands); go_simp; try with_reducible rfl
    try simp only [List.getElem_toArray, List.getElem_cons_succ, List.getElem_cons_zero, Act.put, List.setIfInBounds_toArray, List.set_cons_zero, List.set_cons_succ]
    refine wpAnyH_take (i := 23) (oi := _) (v := ?vve23) rfl (by kernel_rfl) (by kernel_rfl) (by kernel_rfl) (fun _ _ _ h => h) (Or.inl ⟨by kernel_rfl, ?hye23⟩) hHeld ?reste23
    case hye23 => intro w hSw; (try dsimp only at hSw); (try go_split_ands); go_simp; try with_reducible rfl
    try simp only [List.getElem_toArray, List.getElem_cons_succ, List.getElem_cons_zero, Act.put, List.setIfInBounds_toArray, List.set_cons_zero, List.set_cons_succ]
    refine wpAnyH_take (i := 24) (oi := _) (v := ?vve24) rfl (by kernel_rfl) (by kernel_rfl) (by kernel_rfl) (fun _ _ _ h => h) (Or.inl ⟨by kernel_rfl, ?hye24⟩) hHeld ?reste24
    case hye24 => intro w hSw; (try dsimp only at hSw); (try go_split_ands); go_simp; try with_reducible rfl
    try simp only [List.getElem_toArray, List.getElem_cons_succ, List.getElem_cons_zero, Act.put, List.setIfInBounds_toArray, List.set_cons_zero, List.set_cons_succ]
    refine wpAnyH_ready (rs := [25]) (by kernel_rfl) (by simp) ?_
    refine AllReadyH.cons (o := _) rfl (fun K hK => ?_) AllReadyH.nil
    go_simp
    go_at_call 25; (with_reducible refine (fools_val (l.drop k) (i - k) f r (IH2.out rfl) b (o + k * 4) (cap - k) (some ⟨bp, op, none⟩) cp (n - k) M _ _ HDA.out HM.out.symm rfl (hrd5.drop k) hrp5 hnkc hcm1 hMc hcpm').mono ?_); rintro e w5 ⟨rfl, hA5⟩; have hB5 := hBd.trans (hA5.mono hBd.size)
    go_wp2_with fail
    refine hK.out _ _ (keep20 hA5 hHeld) (fun hHeld => ?_)
    clear hK K
    try simp only [List.getElem_toArray, List.getElem_cons_succ, List.getElem_cons_zero, Act.put, List.setIfInBounds_toArray, List.set_cons_zero, List.set_cons_succ]
    refine wpAnyH_take (i := 26) (oi := _) (v := ?vve26) rfl (by kernel_rfl) (by kernel_rfl) (by kernel_rfl) (fun _ _ _ h => h) (Or.inl ⟨by kernel_rfl, ?hye26⟩) hHeld ?reste26
    case hye26 => intro w hSw; (try dsimp only at hSw); (try go_split_ands); go_simp; try with_reducible rfl
    try simp only [List.getElem_toArray, List.getElem_cons_succ, List.getElem_cons_zero, Act.put, List.setIfInBounds_toArray, List.set_cons_zero, List.set_cons_succ]
    refine wpAnyH_take (i := 27) (oi := _) (v := ?vve27) rfl (by kernel_rfl) (by kernel_rfl) (by kernel_rfl) (fun _ _ _ h => h) (Or.inl ⟨by kernel_rfl, ?hye27⟩) hHeld ?reste27
    case hye27 => intro w hSw; (try dsimp only at hSw); (try go_split_ands); go_simp; try with_reducible rfl
    try simp only [List.getElem_toArray, List.getElem_cons_succ, List.getElem_cons_zero, Act.put, List.setIfInBounds_toArray, List.set_cons_zero, List.set_cons_succ]
    refine wpAnyH_done (by kernel_rfl) ?_ _
    go_wp2
    go_ret
    exact ⟨rfl, hB5⟩
end Go.Proofs.YtnimbclnhgbdcaaDoor
