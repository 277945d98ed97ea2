/-
  The walk of OnetimeHolds (written by gen_laws5.py).
-/
import Derived.Test.YtkgkmpelclmllaaDoorOtLA
import Derived.Deep.CutRange
namespace Go.Proofs.YtkgkmpelclmllaaDoor
open Go.RowKit

theorem rdS_al {w : World} {p : Option Addr} {l : List D4} (h : RdS w p l) (o : Obj) : RdS (w.alloc o) p l := h.on ((Below.refl _ w).alloc (Nat.le_refl _) o)
theorem new4 {X w' : World} (h : Below (X.alloc (.cells #[.int .u32 0, .int .u32 0, .int .u32 0, .int .u32 0] 24)).heap.size (X.alloc (.cells #[.int .u32 0, .int .u32 0, .int .u32 0, .int .u32 0] 24)) w') : Arr .u32 24 X.heap.size [0, 0, 0, 0] w' := by
  unfold Arr
  rw [h.block _ (by simp)]
  exact heap_alloc_new X _
theorem rdS_far4 {w : World} {g X : Nat} {l : List D4} (h : RdS w (some ⟨g, 0, none⟩) l) (hne : g ≠ X) (d : D4) : RdS ((((w.setCell ⟨X, 0, none⟩ (.int .u32 d.d0)).setCell ⟨X, 1, none⟩ (.int .u32 d.d1)).setCell ⟨X, 2, none⟩ (.int .u32 d.d2)).setCell ⟨X, 3, none⟩ (.int .u32 d.d3)) (some ⟨g, 0, none⟩) l := fun q => by
  obtain ⟨b, o, e, h1, h2⟩ := h q
  cases e
  refine ⟨g, 0, rfl, by simpa using h1, fun i hi => ?_⟩
  obtain ⟨a0, a1, a2, a3⟩ := h2 i hi
  have hx : ∀ u v, (⟨X, u, none⟩ : Addr) ≠ ⟨g, v, none⟩ := fun u v e => hne (by injection e with e1; exact e1.symm)
  have key : ∀ v z, w.cell? ⟨g, v, none⟩ = some z → (((((w.setCell ⟨X, 0, none⟩ (.int .u32 d.d0)).setCell ⟨X, 1, none⟩ (.int .u32 d.d1)).setCell ⟨X, 2, none⟩ (.int .u32 d.d2)).setCell ⟨X, 3, none⟩ (.int .u32 d.d3))).cell? ⟨g, v, none⟩ = some z := fun v z hz => by
    rw [World.cell?_setCell_other _ _ _ _ (hx _ _), World.cell?_setCell_other _ _ _ _ (hx _ _), World.cell?_setCell_other _ _ _ _ (hx _ _), World.cell?_setCell_other _ _ _ _ (hx _ _)]
    exact hz
  exact ⟨key _ _ a0, key _ _ a1, key _ _ a2, key _ _ a3⟩
theorem rdS_lt {w : World} {g : Nat} {l : List D4} (h : RdS w (some ⟨g, 0, none⟩) l) (hl : 35 = l.length) : g < w.heap.size := by
  obtain ⟨b, o, e, h1, _⟩ := h (by intro e; subst e; simp at hl)
  cases e
  exact h1
set_option maxHeartbeats 8000000 in
set_option maxRecDepth 100000 in
theorem holds_walk (seed msg : D4) (w : World) (hso : seed.ok) (hmo : msg.ok) (hT : TurnsOk w) : Calls Tryd.prog 5 #[.agg #[.int .u32 seed.d0, .int .u32 seed.d1, .int .u32 seed.d2, .int .u32 seed.d3], .agg #[.int .u32 msg.d0, .int .u32 msg.d1, .int .u32 msg.d2, .int .u32 msg.d3]] w fun e w' => e = .returned (.bool true) ∧ Below w.heap.size w w' := by
  obtain ⟨L, hL⟩ : ∃ l, signL seed msg = l := ⟨_, rfl⟩
  obtain ⟨v, hv⟩ : ∃ v, publicD seed = v := ⟨_, rfl⟩
  have hLl : 35 = L.length := by rw [← hL, signL_len]
  have hLo : allD4 L := by rw [← hL]; exact signL_ok msg hso
  have hrv : reachV msg L = v := by rw [← hL, ← hv, reachV, if_pos (signL_len seed msg), reach_sign]
  have hri : is35 L = true := by rw [is35, ← hLl]; rfl
  have hck : checkV v msg L = true := by rw [← hL, ← hv]; exact check_sign seed msg
  have HL := Lib.hid hL
  have HV := Lib.hid hv
  have HLL := Lib.hid hLl
  have HLO := Lib.hid hLo
  have HRV := Lib.hid hrv
  have HRI := Lib.hid hri
  have HCK := Lib.hid hck
  have HLE := Lib.hid (show L.length ≤ 35 by omega)
  have hE := eqD_yes v
  have h35 : 35 ≤ maxLen := by unfold maxLen; omega
  clear hL hv hLl hLo hrv hri hck
  obtain ⟨w0, hw0⟩ : ∃ w0, (w.alloc (.cells #[.int .u32 seed.d0, .int .u32 seed.d1, .int .u32 seed.d2, .int .u32 seed.d3] 24)).alloc (.cells #[.int .u32 msg.d0, .int .u32 msg.d1, .int .u32 msg.d2, .int .u32 msg.d3] 24) = w0 := ⟨_, rfl⟩
  obtain ⟨hA0, hM0, hB0⟩ := start47 seed msg w w0 hw0
  have hT0 := hT.below hB0
  clear hT
  go_enter Tryd.func5, Tryd.ntmps5
  go_wp2_with fail
  clear hw0
  go_cut [5, 6] from 9 (fun s p wx => ∃ X gs, p = .pointer (some ⟨X, 0, none⟩) ∧ s = .slice (some ⟨gs, 0, none⟩) 35 35 ∧ Arr .u32 24 X v.toL wx ∧ RdS wx (some ⟨gs, 0, none⟩) L ∧ Below w0.heap.size w0 wx)
  case first =>
    have hb1 : w.heap.size < w0.drew.heap.size := hA0.lt
    have hb2 : w.heap.size + 1 < w0.drew.heap.size := hM0.lt
    have hs4 := Arr.c4 (show Arr .u32 24 w.heap.size seed.toL w0.drew from hA0)
    have hm4 := Arr.c4 (show Arr .u32 24 (w.heap.size + 1) msg.toL w0.drew from hM0)
    have HS0 : Hid (w0.drew.cell? ⟨w.heap.size, 0, none⟩ = some (.int .u32 seed.d0) ∧ w0.drew.cell? ⟨w.heap.size, 1, none⟩ = some (.int .u32 seed.d1) ∧ w0.drew.cell? ⟨w.heap.size, 2, none⟩ = some (.int .u32 seed.d2) ∧ w0.drew.cell? ⟨w.heap.size, 3, none⟩ = some (.int .u32 seed.d3) ∧ w0.drew.cell? ⟨w.heap.size + 1, 0, none⟩ = some (.int .u32 msg.d0) ∧ w0.drew.cell? ⟨w.heap.size + 1, 1, none⟩ = some (.int .u32 msg.d1) ∧ w0.drew.cell? ⟨w.heap.size + 1, 2, none⟩ = some (.int .u32 msg.d2) ∧ w0.drew.cell? ⟨w.heap.size + 1, 3, none⟩ = some (.int .u32 msg.d3)) := ⟨hs4.1, hs4.2.1, hs4.2.2.1, hs4.2.2.2, hm4.1, hm4.2.1, hm4.2.2.1, hm4.2.2.2⟩
    obtain ⟨wn, hwn⟩ : ∃ wn, (w0.alloc (.cells #[.int .u32 0, .int .u32 0, .int .u32 0, .int .u32 0] 24)).drew = wn := ⟨_, rfl⟩
    have hNn : Arr .u32 24 w0.heap.size [0, 0, 0, 0] wn := by rw [← hwn]; exact heap_alloc_new w0 _
    have hBn : Below w0.drew.heap.size w0.drew wn := by rw [← hwn]; exact (Below.refl _ w0.drew).alloc (Nat.le_refl _) _
    have hszn : wn.heap.size = w0.heap.size + 1 := by rw [← hwn]; simp
    have hszd : w0.drew.heap.size = w0.heap.size := rfl
    have HSn := Lib.hid (keepB2 hBn hb1 hb2 HS0.out)
    have hTd : TurnsOk w0.drew := hT0
    have hCur : Below w0.drew.heap.size w0.drew w0.drew := Below.refl _ _
    clear hA0 hM0 hs4 hm4 hT0
    go_region_held3 (fun w' => w'.cell? ⟨w.heap.size, 0, none⟩ = some (.int .u32 seed.d0) ∧ w'.cell? ⟨w.heap.size, 1, none⟩ = some (.int .u32 seed.d1) ∧ w'.cell? ⟨w.heap.size, 2, none⟩ = some (.int .u32 seed.d2) ∧ w'.cell? ⟨w.heap.size, 3, none⟩ = some (.int .u32 seed.d3) ∧ w'.cell? ⟨w.heap.size + 1, 0, none⟩ = some (.int .u32 msg.d0) ∧ w'.cell? ⟨w.heap.size + 1, 1, none⟩ = some (.int .u32 msg.d1) ∧ w'.cell? ⟨w.heap.size + 1, 2, none⟩ = some (.int .u32 msg.d2) ∧ w'.cell? ⟨w.heap.size + 1, 3, none⟩ = some (.int .u32 msg.d3))
      (first
        | (with_reducible exact HS0.out)
        | (with_reducible exact HSn.out)
        | exact keepB2 hCur hb1 hb2 HS0.out
        | exact keepB2 (hCur.alloc hCur.size _) hb1 hb2 HS0.out
        | exact keepB2 (below_put4 hCur (Nat.le_refl _) v) hb1 hb2 HS0.out
        | exact keepB2 (below_put4 hCur hz v) hb1 hb2 HS0.out)
      (first
        | (go_at_call 17; (with_reducible refine (csign_val seed msg L _ hso hmo (by first | exact hTd.below hCur | exact hTd.below hBn | exact hTd.below (hCur.alloc hCur.size _)) HL.out).mono ?_); rintro e wa ⟨gs, rfl, hgs, hRs, hP⟩; have hgl := rdS_lt hRs HLL.out; (first | (with_reducible have hN := hN.on hP) | (with_reducible have hN := hNn.on hP) | (with_reducible have hN := new4 hP) | skip); have hz := hCur.size; (first | (with_reducible have hCur := hCur.trans (hP.mono hCur.size)) | (with_reducible have hCur := hBn.trans (hP.mono hBn.size)) | (have hCur := (hCur.alloc hCur.size (.cells #[.int .u32 0, .int .u32 0, .int .u32 0, .int .u32 0] 24)).trans (hP.mono (hCur.alloc hCur.size (.cells #[.int .u32 0, .int .u32 0, .int .u32 0, .int .u32 0] 24)).size))); (try (obtain ⟨k0, k1, k2, k3⟩ := Arr.c4 (d := zeroD) hN; obtain ⟨f0, f1, f2, f3⟩ := hN.f4)))
        | (go_at_call 14; (with_reducible refine (cpub_val seed v _ hso (by first | exact hTd.below hCur | exact hTd.below hBn | exact hTd.below (hCur.alloc hCur.size _)) HV.out).mono ?_); rintro e wb ⟨rfl, hP⟩; (first | (with_reducible have hRs := hRs.on hP) | (with_reducible have hRs := (rdS_al hRs _).on hP) | skip); (first | (with_reducible have hN := hN.on hP) | (with_reducible have hN := hNn.on hP) | (with_reducible have hN := new4 hP) | skip); have hz := hCur.size; (first | (with_reducible have hCur := hCur.trans (hP.mono hCur.size)) | (with_reducible have hCur := hBn.trans (hP.mono hBn.size)) | (have hCur := (hCur.alloc hCur.size (.cells #[.int .u32 0, .int .u32 0, .int .u32 0, .int .u32 0] 24)).trans (hP.mono (hCur.alloc hCur.size (.cells #[.int .u32 0, .int .u32 0, .int .u32 0, .int .u32 0] 24)).size))); (try (obtain ⟨k0, k1, k2, k3⟩ := Arr.c4 (d := zeroD) hN; obtain ⟨f0, f1, f2, f3⟩ := hN.f4))))
    all_goals
      go_wp2_with fail
      go_meet
      refine ⟨_, gs, rfl, rfl, ?_, ?_, ?_⟩
      · first
          | exact put4 hN rfl
          | exact heap_alloc_new _ _
      · first
          | (have hq := hN.lt; (try simp at hgs); exact rdS_far4 hRs (by omega) v)
          | exact rdS_al hRs _
      · first
          | (have hq := hN.lt; exact ((Below.refl _ w0).drew).trans (below_put4 hCur (by omega) v))
          | exact ((Below.refl _ w0).drew).trans (hCur.alloc hCur.size _)
  case rest =>
    obtain ⟨X, gs, rfl, rfl, hX, hRs, hC⟩ := hcut
    have hM1 := hM0.thr hC hM0.lt
    have hT1 := turns_far hT0 (tab_low hT0 gTrn) hC
    have hB1 := hB0.trans (hC.mono hB0.size)
    clear hA0 hM0 hT0 hB0 hC
    obtain ⟨m0, m1, m2, m3⟩ := Arr.c4 hM1
    go_wp2_with fail
    refine (creach_any msg v L true (some ⟨gs, 0, none⟩) 35 35 wc hmo HLO.out HLL.out hRs HLE.out h35 hT1 HRV.out HRI.out).mono ?_
    rintro e w1 ⟨rfl, hD⟩
    obtain ⟨w2, hw2⟩ : ∃ w2, w1.alloc (.cells #[.int .u32 v.d0, .int .u32 v.d1, .int .u32 v.d2, .int .u32 v.d3] 24) = w2 := ⟨_, rfl⟩
    have hY2 : Arr .u32 24 w1.heap.size v.toL w2 := by rw [← hw2]; exact heap_alloc_new w1 _
    have hD2 : Below w1.heap.size w1 w2 := by rw [← hw2]; exact (Below.refl _ _).alloc (Nat.le_refl _) _
    have hD02 := hD.trans (hD2.mono hD.size)
    have hM2 := hM1.on hD02
    have hX2 := hX.on hD02
    have hR2 := hRs.on hD02
    have hT2 := hT1.below hD02
    have hB2 := hB1.trans (hD02.mono hB1.size)
    clear hM1 hX hRs hT1 hB1 hD hD2 hD02 m0 m1 m2 m3
    go_wp2_with fail
    clear hw2
    refine (awake5_any w2 hT2).mono ?_
    rintro e w3 ⟨rfl, hP⟩
    have hM3 := hM2.on hP
    have hX3 := hX2.on hP
    have hY3 := hY2.on hP
    have hR3 := hR2.on hP
    have hT3 := hT2.below hP
    have hB3 := hB2.trans (hP.mono hB2.size)
    clear hM2 hX2 hY2 hR2 hT2 hB2 hP
    obtain ⟨m0, m1, m2, m3⟩ := Arr.c4 hM3
    obtain ⟨k0, k1, k2, k3⟩ := Arr.c4 hX3
    go_wp2_with fail
    refine (ccheck_any v msg L true (some ⟨gs, 0, none⟩) 35 35 w3 hmo HLO.out HLL.out hR3 HLE.out h35 hT3 HCK.out).mono ?_
    rintro e w4 ⟨rfl, hP⟩
    have hX4 := hX3.on hP
    have hY4 := hY3.on hP
    have hB4 := hB3.trans (hP.mono hB3.size)
    clear hM3 hX3 hY3 hR3 hT3 hB3 hP m0 m1 m2 m3 k0 k1 k2 k3
    obtain ⟨k0, k1, k2, k3⟩ := Arr.c4 hX4
    obtain ⟨j0, j1, j2, j3⟩ := Arr.c4 hY4
    go_wp2_with fail
    go_ret
    exact ⟨rfl, hB4⟩

end Go.Proofs.YtkgkmpelclmllaaDoor
