/-
  The walks of OnetimeSteps and OnetimeKeys (written by gen_laws5.py).
-/
import Derived.Test.YtkgkmpelclmllaaDoorOtS
import Derived.Test.YtkgkmpelclmllaaDoorOtR
import Derived.Test.YtkgkmpelclmllaaDoorOtO
namespace Go.Proofs.YtkgkmpelclmllaaDoor
open Go.RowKit

theorem keepB1 {B b : Nat} {W w' : World} {x : D4} (h : Below B W w') (hb : b < B) (q : W.cell? ⟨b, 0, none⟩ = some (.int .u32 x.d0) ∧ W.cell? ⟨b, 1, none⟩ = some (.int .u32 x.d1) ∧ W.cell? ⟨b, 2, none⟩ = some (.int .u32 x.d2) ∧ W.cell? ⟨b, 3, none⟩ = some (.int .u32 x.d3)) : w'.cell? ⟨b, 0, none⟩ = some (.int .u32 x.d0) ∧ w'.cell? ⟨b, 1, none⟩ = some (.int .u32 x.d1) ∧ w'.cell? ⟨b, 2, none⟩ = some (.int .u32 x.d2) ∧ w'.cell? ⟨b, 3, none⟩ = some (.int .u32 x.d3) := by
  obtain ⟨q0, q1, q2, q3⟩ := q
  exact ⟨by rw [h.cell (p := ⟨_, _, none⟩) hb]; exact q0, by rw [h.cell (p := ⟨_, _, none⟩) hb]; exact q1, by rw [h.cell (p := ⟨_, _, none⟩) hb]; exact q2, by rw [h.cell (p := ⟨_, _, none⟩) hb]; exact q3⟩
theorem keepB2 {B b c : Nat} {W w' : World} {x y : D4} (h : Below B W w') (hb : b < B) (hc : c < B) (q : W.cell? ⟨b, 0, none⟩ = some (.int .u32 x.d0) ∧ W.cell? ⟨b, 1, none⟩ = some (.int .u32 x.d1) ∧ W.cell? ⟨b, 2, none⟩ = some (.int .u32 x.d2) ∧ W.cell? ⟨b, 3, none⟩ = some (.int .u32 x.d3) ∧ W.cell? ⟨c, 0, none⟩ = some (.int .u32 y.d0) ∧ W.cell? ⟨c, 1, none⟩ = some (.int .u32 y.d1) ∧ W.cell? ⟨c, 2, none⟩ = some (.int .u32 y.d2) ∧ W.cell? ⟨c, 3, none⟩ = some (.int .u32 y.d3)) : w'.cell? ⟨b, 0, none⟩ = some (.int .u32 x.d0) ∧ w'.cell? ⟨b, 1, none⟩ = some (.int .u32 x.d1) ∧ w'.cell? ⟨b, 2, none⟩ = some (.int .u32 x.d2) ∧ w'.cell? ⟨b, 3, none⟩ = some (.int .u32 x.d3) ∧ w'.cell? ⟨c, 0, none⟩ = some (.int .u32 y.d0) ∧ w'.cell? ⟨c, 1, none⟩ = some (.int .u32 y.d1) ∧ w'.cell? ⟨c, 2, none⟩ = some (.int .u32 y.d2) ∧ w'.cell? ⟨c, 3, none⟩ = some (.int .u32 y.d3) := by
  obtain ⟨q0, q1, q2, q3, q4, q5, q6, q7⟩ := q
  exact ⟨by rw [h.cell (p := ⟨_, _, none⟩) hb]; exact q0, by rw [h.cell (p := ⟨_, _, none⟩) hb]; exact q1, by rw [h.cell (p := ⟨_, _, none⟩) hb]; exact q2, by rw [h.cell (p := ⟨_, _, none⟩) hb]; exact q3, by rw [h.cell (p := ⟨_, _, none⟩) hc]; exact q4, by rw [h.cell (p := ⟨_, _, none⟩) hc]; exact q5, by rw [h.cell (p := ⟨_, _, none⟩) hc]; exact q6, by rw [h.cell (p := ⟨_, _, none⟩) hc]; exact q7⟩
theorem ints_val (l : List Nat) (a b c d : Nat) (w : World) (hl : l.length = 35) (ha : RdN w a l) (hb : RdN w b l) (hc : 35 ≤ c) (hcm : c ≤ maxLen) (hd : 35 ≤ d) (hdm : d ≤ maxLen) :
    Calls Tryd.prog 11 #[.slice (some ⟨a, 0, none⟩) 35 c, .slice (some ⟨b, 0, none⟩) 35 d] w fun e w' => e = .returned (.bool true) ∧ Below w.heap.size w w' := by
  have h := ints_any l l a b 35 35 c d w hl.symm hl.symm ha hb hc hcm hd hdm
  rw [decide_eq_true rfl] at h
  exact h

set_option maxHeartbeats 8000000 in
set_option maxRecDepth 100000 in
theorem steps_walk (msg : D4) (w : World) (hmo : msg.ok) (hT : TurnsOk w) : Calls Tryd.prog 3 #[.agg #[.int .u32 msg.d0, .int .u32 msg.d1, .int .u32 msg.d2, .int .u32 msg.d3]] w fun e w' => e = .returned (.bool true) ∧ Below w.heap.size w w' := by
  obtain ⟨N, hN⟩ : ∃ N, numL msg = N := ⟨_, rfl⟩
  have hNl : N.length = 35 := by rw [← hN, numL_len]
  have HN := Lib.hid hN
  have HNL := Lib.hid hNl
  clear hN hNl
  obtain ⟨w0, hw0⟩ : ∃ w0, w.alloc (.cells #[.int .u32 msg.d0, .int .u32 msg.d1, .int .u32 msg.d2, .int .u32 msg.d3] 24) = w0 := ⟨_, rfl⟩
  have hA0 : Arr .u32 24 w.heap.size msg.toL w0 := by rw [← hw0]; exact heap_alloc_new w _
  have hB0 : Below w.heap.size w w0 := by rw [← hw0]; exact (Below.refl _ _).alloc (Nat.le_refl _) _
  have hb1 : w.heap.size < w0.drew.heap.size := hA0.lt
  have hm4 := Arr.c4 (show Arr .u32 24 w.heap.size msg.toL w0.drew from hA0)
  have HS0 : Hid (w0.drew.cell? ⟨w.heap.size, 0, none⟩ = some (.int .u32 msg.d0) ∧ w0.drew.cell? ⟨w.heap.size, 1, none⟩ = some (.int .u32 msg.d1) ∧ w0.drew.cell? ⟨w.heap.size, 2, none⟩ = some (.int .u32 msg.d2) ∧ w0.drew.cell? ⟨w.heap.size, 3, none⟩ = some (.int .u32 msg.d3)) := ⟨hm4.1, hm4.2.1, hm4.2.2.1, hm4.2.2.2⟩
  have hTd : TurnsOk w0.drew := hT.below hB0.drew
  have hCur : Below w0.drew.heap.size w0.drew w0.drew := Below.refl _ _
  clear hT hA0 hm4
  go_enter Tryd.func3, Tryd.ntmps3
  go_wp2_with fail
  clear hw0
  go_region_held3 (fun w' => w'.cell? ⟨w.heap.size, 0, none⟩ = some (.int .u32 msg.d0) ∧ w'.cell? ⟨w.heap.size, 1, none⟩ = some (.int .u32 msg.d1) ∧ w'.cell? ⟨w.heap.size, 2, none⟩ = some (.int .u32 msg.d2) ∧ w'.cell? ⟨w.heap.size, 3, none⟩ = some (.int .u32 msg.d3))
    (first | exact keepB1 hCur hb1 HS0.out)
    (first
      | (go_at_call 10; (with_reducible refine (awake5_any _ hTd).mono ?_); rintro e wa ⟨rfl, hP⟩; have hCur : Below w0.drew.heap.size w0.drew wa := hCur.trans (hP.mono hCur.size))
      | (go_at_call 12; (with_reducible refine (csteps_val msg N _ hmo HN.out).mono ?_); rintro e wc ⟨gc, cc, rfl, hgc, hcc, hccm, hRc, hP⟩; (try have hRr := hRr.on hP); have hCur : Below w0.drew.heap.size w0.drew wc := hCur.trans (hP.mono hCur.size))
      | (go_at_call 13; (with_reducible refine (rsteps_val msg N _ hmo HN.out).mono ?_); rintro e wd ⟨gr, cr, rfl, hgr, hcr, hcrm, hRr, hP⟩; (try have hRc := hRc.on hP); have hCur : Below w0.drew.heap.size w0.drew wd := hCur.trans (hP.mono hCur.size))
      | (go_at_call 11; (with_reducible refine (ints_val N gc gr cc cr _ HNL.out hRc hRr hcc hccm hcr hcrm).mono ?_); rintro e we ⟨rfl, hP⟩; have hCur : Below w0.drew.heap.size w0.drew we := hCur.trans (hP.mono hCur.size)))
  all_goals
    go_wp2_with fail
    go_ret
    exact ⟨rfl, hB0.drew.trans (hCur.mono hB0.size)⟩

theorem same_val (l : List D4) (a b : Option Addr) (c d : Nat) (w : World) (hl : l.length = 35) (ha : RdS w a l) (hb : RdS w b l) (hc : 35 ≤ c) (hcm : c ≤ maxLen) (hd : 35 ≤ d) (hdm : d ≤ maxLen) :
    Calls Tryd.prog 16 #[.slice a 35 c, .slice b 35 d] w fun e w' => e = .returned (.bool true) ∧ Below w.heap.size w w' := by
  have h := rsame_any l l a b 35 35 c d w hl.symm hl.symm ha hb hc hcm hd hdm
  rw [decide_eq_true rfl] at h
  exact h
theorem RdS.on {w w' : World} {p : Option Addr} {l : List D4} (h : RdS w p l) (hB : Below w.heap.size w w') : RdS w' p l := fun q => by
  obtain ⟨b, o, e, h1⟩ := h q
  exact ⟨b, o, e, h1.on hB⟩
theorem csign_val (seed msg : D4) (L : List D4) (w : World) (hs : seed.ok) (hmo : msg.ok) (hT : TurnsOk w) (hL : signL seed msg = L) :
    Calls Tryd.prog 17 #[.agg #[.int .u32 seed.d0, .int .u32 seed.d1, .int .u32 seed.d2, .int .u32 seed.d3], .agg #[.int .u32 msg.d0, .int .u32 msg.d1, .int .u32 msg.d2, .int .u32 msg.d3]] w fun e w' => ∃ g, e = .returned (.slice (some ⟨g, 0, none⟩) 35 35) ∧ w.heap.size ≤ g ∧ RdS w' (some ⟨g, 0, none⟩) L ∧ Below w.heap.size w w' := by
  refine (csign_any seed msg L w hs hmo hT hL).mono ?_
  rintro e w' ⟨g, rfl, h1, h2, h3⟩
  exact ⟨g, rfl, h1, fun _ => ⟨g, 0, rfl, h2⟩, h3⟩
set_option maxHeartbeats 8000000 in
set_option maxRecDepth 100000 in
theorem keys_walk (seed msg : D4) (w : World) (hso : seed.ok) (hmo : msg.ok) (hT : TurnsOk w) : Calls Tryd.prog 4 #[.agg #[.int .u32 seed.d0, .int .u32 seed.d1, .int .u32 seed.d2, .int .u32 seed.d3], .agg #[.int .u32 msg.d0, .int .u32 msg.d1, .int .u32 msg.d2, .int .u32 msg.d3]] w fun e w' => e = .returned (.bool true) ∧ Below w.heap.size w w' := by
  obtain ⟨L, hL⟩ : ∃ l, signL seed msg = l := ⟨_, rfl⟩
  obtain ⟨v, hv⟩ : ∃ v, publicD seed = v := ⟨_, rfl⟩
  have hLl : L.length = 35 := by rw [← hL, signL_len]
  have HL := Lib.hid hL
  have HV := Lib.hid hv
  have HLL := Lib.hid hLl
  have hE := eqD_yes v
  have h35 : 35 ≤ maxLen := by unfold maxLen; omega
  clear hL hv hLl
  obtain ⟨w0, hw0⟩ : ∃ w0, (w.alloc (.cells #[.int .u32 seed.d0, .int .u32 seed.d1, .int .u32 seed.d2, .int .u32 seed.d3] 24)).alloc (.cells #[.int .u32 msg.d0, .int .u32 msg.d1, .int .u32 msg.d2, .int .u32 msg.d3] 24) = w0 := ⟨_, rfl⟩
  obtain ⟨hA0, hM0, hB0⟩ := start47 seed msg w w0 hw0
  have hb1 : w.heap.size < w0.drew.heap.size := hA0.lt
  have hb2 : w.heap.size + 1 < w0.drew.heap.size := hM0.lt
  have hs4 := Arr.c4 (show Arr .u32 24 w.heap.size seed.toL w0.drew from hA0)
  have hm4 := Arr.c4 (show Arr .u32 24 (w.heap.size + 1) msg.toL w0.drew from hM0)
  have HS0 : Hid (w0.drew.cell? ⟨w.heap.size, 0, none⟩ = some (.int .u32 seed.d0) ∧ w0.drew.cell? ⟨w.heap.size, 1, none⟩ = some (.int .u32 seed.d1) ∧ w0.drew.cell? ⟨w.heap.size, 2, none⟩ = some (.int .u32 seed.d2) ∧ w0.drew.cell? ⟨w.heap.size, 3, none⟩ = some (.int .u32 seed.d3) ∧ w0.drew.cell? ⟨w.heap.size + 1, 0, none⟩ = some (.int .u32 msg.d0) ∧ w0.drew.cell? ⟨w.heap.size + 1, 1, none⟩ = some (.int .u32 msg.d1) ∧ w0.drew.cell? ⟨w.heap.size + 1, 2, none⟩ = some (.int .u32 msg.d2) ∧ w0.drew.cell? ⟨w.heap.size + 1, 3, none⟩ = some (.int .u32 msg.d3)) := ⟨hs4.1, hs4.2.1, hs4.2.2.1, hs4.2.2.2, hm4.1, hm4.2.1, hm4.2.2.1, hm4.2.2.2⟩
  have hTd : TurnsOk w0.drew := hT.below hB0.drew
  have hCur : Below w0.drew.heap.size w0.drew w0.drew := Below.refl _ _
  clear hT hA0 hM0 hm4 hs4
  go_enter Tryd.func4, Tryd.ntmps4
  go_wp2_with fail
  clear hw0
  go_region_held3 (fun w' => w'.cell? ⟨w.heap.size, 0, none⟩ = some (.int .u32 seed.d0) ∧ w'.cell? ⟨w.heap.size, 1, none⟩ = some (.int .u32 seed.d1) ∧ w'.cell? ⟨w.heap.size, 2, none⟩ = some (.int .u32 seed.d2) ∧ w'.cell? ⟨w.heap.size, 3, none⟩ = some (.int .u32 seed.d3) ∧ w'.cell? ⟨w.heap.size + 1, 0, none⟩ = some (.int .u32 msg.d0) ∧ w'.cell? ⟨w.heap.size + 1, 1, none⟩ = some (.int .u32 msg.d1) ∧ w'.cell? ⟨w.heap.size + 1, 2, none⟩ = some (.int .u32 msg.d2) ∧ w'.cell? ⟨w.heap.size + 1, 3, none⟩ = some (.int .u32 msg.d3))
    (first | exact keepB2 hCur hb1 hb2 HS0.out)
    (first
      | (go_at_call 10; (with_reducible refine (awake5_any _ hTd).mono ?_); rintro e wa ⟨rfl, hP⟩; have hCur : Below w0.drew.heap.size w0.drew wa := hCur.trans (hP.mono hCur.size))
      | (go_at_call 14; (with_reducible refine (cpub_val seed v _ hso (hTd.below hCur) HV.out).mono ?_); rintro e wb ⟨rfl, hP⟩; have hCur : Below w0.drew.heap.size w0.drew wb := hCur.trans (hP.mono hCur.size))
      | (go_at_call 15; (with_reducible refine (rpublic_any seed v _ hso HV.out).mono ?_); rintro e wc ⟨rfl, hP⟩; have hCur : Below w0.drew.heap.size w0.drew wc := hCur.trans (hP.mono hCur.size))
      | (go_at_call 17; (with_reducible refine (csign_val seed msg L _ hso hmo (hTd.below hCur) HL.out).mono ?_); rintro e wd ⟨gs, rfl, hgs, hRc, hP⟩; (try have hRr := hRr.on hP); have hCur : Below w0.drew.heap.size w0.drew wd := hCur.trans (hP.mono hCur.size))
      | (go_at_call 18; (with_reducible refine (rsign_any seed msg L _ hso hmo HL.out).mono ?_); rintro e we ⟨pr, cr, rfl, hcr, hcrm, hRr, hP⟩; (try have hRc := hRc.on hP); have hCur : Below w0.drew.heap.size w0.drew we := hCur.trans (hP.mono hCur.size))
      | (go_at_call 16; (with_reducible refine (same_val L _ pr 35 cr _ HLL.out hRc hRr (Nat.le_refl _) h35 hcr hcrm).mono ?_); rintro e wf ⟨rfl, hP⟩; have hCur : Below w0.drew.heap.size w0.drew wf := hCur.trans (hP.mono hCur.size)))
  all_goals
    go_wp2_with fail
    go_ret
    exact ⟨rfl, hB0.drew.trans (hCur.mono hB0.size)⟩

end Go.Proofs.YtkgkmpelclmllaaDoor
