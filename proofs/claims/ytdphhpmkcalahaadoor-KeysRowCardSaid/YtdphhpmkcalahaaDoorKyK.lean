/-
  The code's Sign of layer 6 (written by gen_csign.py).
-/
import Derived.Test.YtdphhpmkcalahaaDoorKyJ
import Derived.Test.YtdphhpmkcalahaaDoorKyC
namespace Go.Proofs.YtdphhpmkcalahaaDoor
open Go.RowKit

theorem RdL.far {w : World} {b o : Nat} {l : List D4} (h : RdL w b o l) {a : Addr} (hne : b ≠ a.block) (v : Value) : RdL (w.setCell a v) b o l :=
  ⟨by have := h.1; simpa using this, fun i hi => by
    have hx : ∀ j, a ≠ ⟨b, j, none⟩ := fun j e => hne (by rw [e])
    obtain ⟨c0, c1, c2, c3⟩ := h.2 i hi
    exact ⟨by rw [World.cell?_setCell_other _ _ _ _ (hx _)]; exact c0, by rw [World.cell?_setCell_other _ _ _ _ (hx _)]; exact c1, by rw [World.cell?_setCell_other _ _ _ _ (hx _)]; exact c2, by rw [World.cell?_setCell_other _ _ _ _ (hx _)]; exact c3⟩⟩
theorem cprove_own (l q : List D4) (i b o n cap : Nat) (w : World) (hle : l.length ≤ 1000000) (hok : allD4 l) (hi : i < l.length) (hr : RdL w b o l) (hn : n = l.length) (hc : n ≤ cap) (hm : cap ≤ maxLen) (hT : TurnsOk w) (hq : wayD l i = q) :
    Calls Tryd.prog 30 #[.slice (some ⟨b, o, none⟩) n cap, .int .i64 (i : Int)] w fun e w' => ∃ v, e = .returned (.tuple #[v, .int .i64 0]) ∧ OwnsD w.heap.size v q w' ∧ Below w.heap.size w w' := by
  subst hq; subst hn
  exact cprove_any l i b o cap w hle hok hi hr hc hm hT
set_option maxHeartbeats 4000000 in
set_option maxRecDepth 100000 in
theorem csign6_range (s msg : D4) (h i : Int) (w : World) (hh : h < 0 ∨ 4 < h) :
    Calls Tryd.prog 14 #[.agg #[.int .u32 s.d0, .int .u32 s.d1, .int .u32 s.d2, .int .u32 s.d3], .int .i64 h, .int .i64 i, .agg #[.int .u32 msg.d0, .int .u32 msg.d1, .int .u32 msg.d2, .int .u32 msg.d3]] w fun e w' => e = .returned (.tuple #[.agg #[.int .i64 0, .slice none 0 0, .slice none 0 0], .int .i64 2]) ∧ Below w.heap.size w w' := by
  obtain ⟨w0, hw0⟩ : ∃ w0, ((w.alloc (.cells #[.int .u32 s.d0, .int .u32 s.d1, .int .u32 s.d2, .int .u32 s.d3] 24)).alloc (.cells #[.int .u32 msg.d0, .int .u32 msg.d1, .int .u32 msg.d2, .int .u32 msg.d3] 24)).alloc (.cells #[.int .i64 0, .slice none 0 0, .slice none 0 0] 38) = w0 := ⟨_, rfl⟩
  obtain ⟨hA0, hM0, hR0, hB0⟩ := start47z s msg w w0 hw0
  obtain ⟨b0, b1, b2⟩ := hR0.c3
  have f0 := hR0.fz 0
  have f1 := hR0.fz 1
  have f2 := hR0.fz 2
  have hRf := hR0.put3 (.int .i64 0) (.slice none 0 0) (.slice none 0 0)
  have hBf := below_put3 hB0 (show w.heap.size ≤ w.heap.size + 1 + 1 by omega) (.int .i64 0) (.slice none 0 0) (.slice none 0 0)
  have hall : (decide (0 ≤ h) && decide (h ≤ 4)) = false := by
    rw [Bool.and_eq_false_iff]
    rcases hh with q | q
    · left; exact decide_eq_false (by omega)
    · right; exact decide_eq_false (by omega)
  have HALL := Lib.hid hall
  clear hh hall
  go_enter Tryd.func14, Tryd.ntmps14
  go_wp2_with fail
  clear hw0
  refine (ishigh_any h w0).mono ?_
  rintro e w1 ⟨rfl, rfl⟩
  rw [HALL.out]
  go_wp2_with fail
  generalize (((w0.setCell ⟨w.heap.size + 1 + 1, 0, none⟩ (.int .i64 0)).setCell ⟨w.heap.size + 1 + 1, 1, none⟩ (.slice none 0 0)).setCell ⟨w.heap.size + 1 + 1, 2, none⟩ (.slice none 0 0)) = wf at *
  obtain ⟨r0, r1, r2⟩ := hRf.c3
  refine bodyPost_ret (v := .tuple #[.agg #[.int .i64 0, .slice none 0 0, .slice none 0 0], .int .i64 2]) (by simp [results, Tryd.results14, go_sem, r0, r1, r2]) rfl ⟨rfl, hBf⟩
set_option maxHeartbeats 4000000 in
set_option maxRecDepth 100000 in
theorem csign6_arg (s msg : D4) (h : Nat) (i : Int) (w : World) (hs : s.ok) (hT : TurnsOk w) (hh : h ≤ 4) (hi : i < 0 ∨ ((2 ^ h : Nat) : Int) ≤ i) :
    Calls Tryd.prog 14 #[.agg #[.int .u32 s.d0, .int .u32 s.d1, .int .u32 s.d2, .int .u32 s.d3], .int .i64 (h : Int), .int .i64 i, .agg #[.int .u32 msg.d0, .int .u32 msg.d1, .int .u32 msg.d2, .int .u32 msg.d3]] w fun e w' => e = .returned (.tuple #[.agg #[.int .i64 0, .slice none 0 0, .slice none 0 0], .int .i64 1]) ∧ Below w.heap.size w w' := by
  obtain ⟨l, hl⟩ : ∃ l, keysL s h = l := ⟨_, rfl⟩
  obtain ⟨N, hN⟩ : ∃ N, l.length = N := ⟨_, rfl⟩
  have hNb : N ≤ 16 := by rw [← hN, ← hl, keysL_len]; exact pow_le16 (Nat.le_refl _) hh
  have hNe : 2 ^ h = N := by rw [← hN, ← hl, keysL_len]
  rw [hNe] at hi
  have HL := Lib.hid hl
  have HN := Lib.hid hN
  have HALL := Lib.hid (show (decide (0 ≤ (h : Int)) && decide ((h : Int) ≤ 4)) = true by simp; omega)
  clear hl hN hNe
  obtain ⟨w0, hw0⟩ : ∃ w0, ((w.alloc (.cells #[.int .u32 s.d0, .int .u32 s.d1, .int .u32 s.d2, .int .u32 s.d3] 24)).alloc (.cells #[.int .u32 msg.d0, .int .u32 msg.d1, .int .u32 msg.d2, .int .u32 msg.d3] 24)).alloc (.cells #[.int .i64 0, .slice none 0 0, .slice none 0 0] 38) = w0 := ⟨_, rfl⟩
  obtain ⟨hA0, hM0, hR0, hB0⟩ := start47z s msg w w0 hw0
  obtain ⟨l0, l1, l2, l3⟩ := Arr.c4 hA0
  go_enter Tryd.func14, Tryd.ntmps14
  go_wp2_with fail
  clear hw0
  refine (ishigh_any h w0).mono ?_
  rintro e w1 ⟨rfl, rfl⟩
  rw [HALL.out]
  go_wp2_with fail
  refine (cpublics_any s h l N w0 hs hh HL.out HN.out (hT.below hB0)).mono ?_
  rintro e w1 ⟨b, rfl, hrd, hD⟩
  have hR1 := hR0.on hD
  have hB1 := hB0.trans (hD.mono hB0.size)
  clear hA0 hM0 hR0 hB0 l0 l1 l2 l3 hD hrd
  go_wp2_with fail
  refine (cprove_no (some ⟨b, 0, none⟩) N N i w1 hi).mono ?_
  rintro e w2 ⟨rfl, rfl⟩
  obtain ⟨b0, b1, b2⟩ := hR1.c3
  have f0 := hR1.fz 0
  have f1 := hR1.fz 1
  have f2 := hR1.fz 2
  have hRf := hR1.put3 (.int .i64 0) (.slice none 0 0) (.slice none 0 0)
  have hBf := below_put3 hB1 (show w.heap.size ≤ w.heap.size + 1 + 1 by omega) (.int .i64 0) (.slice none 0 0) (.slice none 0 0)
  go_wp2_with fail
  generalize (((w1.setCell ⟨w.heap.size + 1 + 1, 0, none⟩ (.int .i64 0)).setCell ⟨w.heap.size + 1 + 1, 1, none⟩ (.slice none 0 0)).setCell ⟨w.heap.size + 1 + 1, 2, none⟩ (.slice none 0 0)) = wf at *
  obtain ⟨r0, r1, r2⟩ := hRf.c3
  refine bodyPost_ret (v := .tuple #[.agg #[.int .i64 0, .slice none 0 0, .slice none 0 0], .int .i64 1]) (by simp [results, Tryd.results14, go_sem, r0, r1, r2]) rfl ⟨rfl, hBf⟩
set_option maxHeartbeats 4000000 in
set_option maxRecDepth 100000 in
theorem csign6_yes (s msg : D4) (h i : Nat) (L Q : List D4) (w : World) (hs : s.ok) (hT : TurnsOk w) (hmo : msg.ok) (hh : h ≤ 4) (hi : i < 2 ^ h) (hL : signL (seedK s i) msg = L) (hQ : pathK s h i = Q) (QN : Nat) (hQN : Q.length = QN) :
    Calls Tryd.prog 14 #[.agg #[.int .u32 s.d0, .int .u32 s.d1, .int .u32 s.d2, .int .u32 s.d3], .int .i64 (h : Int), .int .i64 (i : Int), .agg #[.int .u32 msg.d0, .int .u32 msg.d1, .int .u32 msg.d2, .int .u32 msg.d3]] w fun e w' => ∃ g p' c', e = .returned (.tuple #[.agg #[.int .i64 (i : Int), .slice (some ⟨g, 0, none⟩) 35 35, .slice p' QN c'], .int .i64 0]) ∧ w.heap.size ≤ g ∧ RdL w' g 0 L ∧ OwnsD w.heap.size (.slice p' QN c') Q w' ∧ Below w.heap.size w w' := by
  obtain ⟨l, hl⟩ : ∃ l, keysL s h = l := ⟨_, rfl⟩
  obtain ⟨N, hN⟩ : ∃ N, l.length = N := ⟨_, rfl⟩
  have hNb : N ≤ 16 := by rw [← hN, ← hl, keysL_len]; exact pow_le16 (Nat.le_refl _) hh
  have hNe : 2 ^ h = N := by rw [← hN, ← hl, keysL_len]
  rw [hNe] at hi
  obtain ⟨z, hz⟩ : ∃ z, seedK s i = z := ⟨_, rfl⟩
  have hzo : z.ok := by rw [← hz]; exact seedK_ok s i
  rw [hz] at hL
  have HQ : Hid (wayD l i = Q) := by show _ = _; rw [← hl]; exact hQ
  have HQN := Lib.hid hQN
  have HLN := Lib.hid (show L.length = 35 by rw [← hL, signL_len])
  have HZ := Lib.hid hz
  have HZO := Lib.hid hzo
  have HS := Lib.hid hL
  have HL := Lib.hid hl
  have HN := Lib.hid hN
  have HLO := Lib.hid (show allD4 l by rw [← hl]; exact keysL_ok s h)
  have HNL := Lib.hid (show l.length ≤ 1000000 by omega)
  have HIL := Lib.hid (show i < l.length by omega)
  have HALL := Lib.hid (show (decide (0 ≤ (h : Int)) && decide ((h : Int) ≤ 4)) = true by simp; omega)
  have HT := Lib.hid hT
  clear hl hN hNe hL hQ hz hzo hQN hT
  obtain ⟨w0, hw0⟩ : ∃ w0, ((w.alloc (.cells #[.int .u32 s.d0, .int .u32 s.d1, .int .u32 s.d2, .int .u32 s.d3] 24)).alloc (.cells #[.int .u32 msg.d0, .int .u32 msg.d1, .int .u32 msg.d2, .int .u32 msg.d3] 24)).alloc (.cells #[.int .i64 0, .slice none 0 0, .slice none 0 0] 38) = w0 := ⟨_, rfl⟩
  obtain ⟨hA0, hM0, hR0, hB0⟩ := start47z s msg w w0 hw0
  have hsz0 : w.heap.size + 1 + 1 < w0.heap.size := hR0.lt
  obtain ⟨l0, l1, l2, l3⟩ := Arr.c4 hA0
  go_enter Tryd.func14, Tryd.ntmps14
  go_wp2_with fail
  clear hw0
  refine (ishigh_any h w0).mono ?_
  rintro e w1 ⟨rfl, rfl⟩
  rw [HALL.out]
  go_wp2_with fail
  refine (cpublics_any s h l N w0 hs hh HL.out HN.out (HT.out.below hB0)).mono ?_
  rintro e w1 ⟨b, rfl, hrl, hD⟩
  have hA1 := hA0.on hD
  have hM1 := hM0.on hD
  have hR1 := hR0.on hD
  have hB1 := hB0.trans (hD.mono hB0.size)
  have hsz1 := Nat.lt_of_lt_of_le hsz0 hD.size
  have hT1 := HT.out.below hB1
  clear hA0 hM0 hR0 hB0 l0 l1 l2 l3 hD
  go_wp2_with fail
  refine (cprove_own l Q i b 0 N N w1 HNL.out HLO.out HIL.out hrl HN.out.symm (Nat.le_refl _) (by unfold maxLen; omega) hT1 HQ.out).mono ?_
  rintro e w2 ⟨v, rfl, hV, hD⟩
  obtain ⟨pv, cv, rfl⟩ := hV.shape HQN.out
  have hA2 := hA1.on hD
  have hM2 := hM1.on hD
  have hR : Box 38 (w.heap.size + 1 + 1) [.int .i64 0, .slice none 0 0, .slice none 0 0] w2.drew := hR1.on hD.drew
  have hVq : OwnsD w1.heap.size (.slice pv QN cv) Q w2.drew := hV
  have hBb : Below w.heap.size w w2.drew := (hB1.trans (hD.mono hB1.size)).drew
  have hsz2 : w.heap.size + 1 + 1 < w2.drew.heap.size := Nat.lt_of_lt_of_le hsz1 hD.size
  have hs4 := Arr.c4 (show Arr .u32 24 w.heap.size s.toL w2.drew from hA2)
  have hm4 := Arr.c4 (show Arr .u32 24 (w.heap.size + 1) msg.toL w2.drew from hM2)
  have HS0 : Hid (w2.drew.cell? ⟨w.heap.size, 0, none⟩ = some (.int .u32 s.d0) ∧ w2.drew.cell? ⟨w.heap.size, 1, none⟩ = some (.int .u32 s.d1) ∧ w2.drew.cell? ⟨w.heap.size, 2, none⟩ = some (.int .u32 s.d2) ∧ w2.drew.cell? ⟨w.heap.size, 3, none⟩ = some (.int .u32 s.d3) ∧ w2.drew.cell? ⟨w.heap.size + 1, 0, none⟩ = some (.int .u32 msg.d0) ∧ w2.drew.cell? ⟨w.heap.size + 1, 1, none⟩ = some (.int .u32 msg.d1) ∧ w2.drew.cell? ⟨w.heap.size + 1, 2, none⟩ = some (.int .u32 msg.d2) ∧ w2.drew.cell? ⟨w.heap.size + 1, 3, none⟩ = some (.int .u32 msg.d3)) := ⟨hs4.1, hs4.2.1, hs4.2.2.1, hs4.2.2.2, hm4.1, hm4.2.1, hm4.2.2.1, hm4.2.2.2⟩
  have hb1 : w.heap.size < w.heap.size + 1 + 1 := by omega
  have hb2 : w.heap.size + 1 < w.heap.size + 1 + 1 := by omega
  have hle : w.heap.size + 1 + 1 ≤ w2.drew.heap.size := Nat.le_of_lt hsz2
  have hCur : Below w2.drew.heap.size w2.drew w2.drew := Below.refl _ _
  have HTK := Lib.hid (show TurnsOk w2.drew from HT.out.below hBb)
  have hgL : 0 < w2.drew.heap.size := tab_low HTK.out gTrn
  clear hT1 hA1 hM1 hR1 hB1 hA2 hM2 hs4 hm4 hD hV hrl
  go_wp2_with fail
  go_region_held3 (fun w' => w'.cell? ⟨w.heap.size, 0, none⟩ = some (.int .u32 s.d0) ∧ w'.cell? ⟨w.heap.size, 1, none⟩ = some (.int .u32 s.d1) ∧ w'.cell? ⟨w.heap.size, 2, none⟩ = some (.int .u32 s.d2) ∧ w'.cell? ⟨w.heap.size, 3, none⟩ = some (.int .u32 s.d3) ∧ w'.cell? ⟨w.heap.size + 1, 0, none⟩ = some (.int .u32 msg.d0) ∧ w'.cell? ⟨w.heap.size + 1, 1, none⟩ = some (.int .u32 msg.d1) ∧ w'.cell? ⟨w.heap.size + 1, 2, none⟩ = some (.int .u32 msg.d2) ∧ w'.cell? ⟨w.heap.size + 1, 3, none⟩ = some (.int .u32 msg.d3))
    (first
      | exact keepK2 (hCur.mono hle) hb1 hb2 HS0.out
      | exact keepK2 (below_put3 (hCur.mono hle) (Nat.le_refl _) _ _ _) hb1 hb2 HS0.out)
    (first
      | (go_at_call 32; (with_reducible refine (ckeyseed_any s z i _ hs (by omega) (turns_far HTK.out hgL hCur) HZ.out).mono ?_); rintro e w3 ⟨rfl, hP⟩; have hR := hR.on hP; have hVq := hVq.on hP; have hCur : Below w2.drew.heap.size w2.drew w3 := hCur.trans (hP.mono hCur.size))
      | (go_at_call 31; (with_reducible refine (csign_any z msg L _ HZO.out hmo (turns_far HTK.out hgL hCur) HS.out).mono ?_); rintro e w4 ⟨g, rfl, hgB, hU, hP⟩; have hR := hR.on hP; have hVq := hVq.on hP; have hz3 := hCur.size; have hCur : Below w2.drew.heap.size w2.drew w4 := hCur.trans (hP.mono hCur.size); obtain ⟨k0, k1, k2⟩ := hR.c3; have f0 := hR.fz 0; have f1 := hR.fz 1; have f2 := hR.fz 2))
  have hRf := hR.put3 (.int .i64 (i : Int)) (.slice (some ⟨g, 0, none⟩) 35 35) (.slice pv QN cv)
  have hBf := below_put3 (hBb.trans (hCur.mono (show w.heap.size ≤ w2.drew.heap.size from hBb.size))) (show w.heap.size ≤ w.heap.size + 1 + 1 by omega) (.int .i64 (i : Int)) (.slice (some ⟨g, 0, none⟩) 35 35) (.slice pv QN cv)
  have hgne : g ≠ w.heap.size + 1 + 1 := by omega
  have hU2 := ((hU.far (a := ⟨w.heap.size + 1 + 1, 0, none⟩) hgne (.int .i64 (i : Int))).far (a := ⟨w.heap.size + 1 + 1, 1, none⟩) hgne (.slice (some ⟨g, 0, none⟩) 35 35)).far (a := ⟨w.heap.size + 1 + 1, 2, none⟩) hgne (.slice pv QN cv)
  have hV2 := ((hVq.far (a := ⟨w.heap.size + 1 + 1, 0, none⟩) hsz1 (.int .i64 (i : Int))).far (a := ⟨w.heap.size + 1 + 1, 1, none⟩) hsz1 (.slice (some ⟨g, 0, none⟩) 35 35)).far (a := ⟨w.heap.size + 1 + 1, 2, none⟩) hsz1 (.slice pv QN cv)
  have hgw : w.heap.size ≤ g := Nat.le_trans (Nat.le_trans hBb.size hz3) hgB
  have hV3 := hV2.lower (show w.heap.size ≤ w1.heap.size by omega)
  clear hU hVq hV2
  go_wp2_with fail
  generalize (((w4.setCell ⟨w.heap.size + 1 + 1, 0, none⟩ (.int .i64 (i : Int))).setCell ⟨w.heap.size + 1 + 1, 1, none⟩ (.slice (some ⟨g, 0, none⟩) 35 35)).setCell ⟨w.heap.size + 1 + 1, 2, none⟩ (.slice pv QN cv)) = wf at *
  obtain ⟨r0, r1, r2⟩ := hRf.c3
  refine bodyPost_ret (v := .tuple #[.agg #[.int .i64 (i : Int), .slice (some ⟨g, 0, none⟩) 35 35, .slice pv QN cv], .int .i64 0]) (by simp [results, Tryd.results14, go_sem, r0, r1, r2]) rfl ⟨g, pv, cv, rfl, hgw, hU2, hV3, hBf⟩
end Go.Proofs.YtdphhpmkcalahaaDoor
