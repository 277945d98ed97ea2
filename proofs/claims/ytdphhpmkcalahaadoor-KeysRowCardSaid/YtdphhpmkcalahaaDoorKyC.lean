/-
  The document's Sign of layer 6 (written by gen_sign.py).
-/
import Derived.Test.YtdphhpmkcalahaaDoorKyB
import Derived.Test.YtdphhpmkcalahaaDoorBox
import Derived.Deep.RegionHeld3
namespace Go.Proofs.YtdphhpmkcalahaaDoor
open Go.RowKit

theorem keepK2 {B b c : Nat} {W w' : World} {x y : D4} (h : Below B W w') (hb : b < B) (hc : c < B) (q : W.cell? ⟨b, 0, none⟩ = some (.int .u32 x.d0) ∧ W.cell? ⟨b, 1, none⟩ = some (.int .u32 x.d1) ∧ W.cell? ⟨b, 2, none⟩ = some (.int .u32 x.d2) ∧ W.cell? ⟨b, 3, none⟩ = some (.int .u32 x.d3) ∧ W.cell? ⟨c, 0, none⟩ = some (.int .u32 y.d0) ∧ W.cell? ⟨c, 1, none⟩ = some (.int .u32 y.d1) ∧ W.cell? ⟨c, 2, none⟩ = some (.int .u32 y.d2) ∧ W.cell? ⟨c, 3, none⟩ = some (.int .u32 y.d3)) : w'.cell? ⟨b, 0, none⟩ = some (.int .u32 x.d0) ∧ w'.cell? ⟨b, 1, none⟩ = some (.int .u32 x.d1) ∧ w'.cell? ⟨b, 2, none⟩ = some (.int .u32 x.d2) ∧ w'.cell? ⟨b, 3, none⟩ = some (.int .u32 x.d3) ∧ w'.cell? ⟨c, 0, none⟩ = some (.int .u32 y.d0) ∧ w'.cell? ⟨c, 1, none⟩ = some (.int .u32 y.d1) ∧ w'.cell? ⟨c, 2, none⟩ = some (.int .u32 y.d2) ∧ w'.cell? ⟨c, 3, none⟩ = some (.int .u32 y.d3) := by
  obtain ⟨q0, q1, q2, q3, q4, q5, q6, q7⟩ := q
  exact ⟨by rw [h.cell (p := ⟨_, _, none⟩) hb]; exact q0, by rw [h.cell (p := ⟨_, _, none⟩) hb]; exact q1, by rw [h.cell (p := ⟨_, _, none⟩) hb]; exact q2, by rw [h.cell (p := ⟨_, _, none⟩) hb]; exact q3, by rw [h.cell (p := ⟨_, _, none⟩) hc]; exact q4, by rw [h.cell (p := ⟨_, _, none⟩) hc]; exact q5, by rw [h.cell (p := ⟨_, _, none⟩) hc]; exact q6, by rw [h.cell (p := ⟨_, _, none⟩) hc]; exact q7⟩
theorem start47z (x y : D4) (w w0 : World) (h : ((w.alloc (.cells #[.int .u32 x.d0, .int .u32 x.d1, .int .u32 x.d2, .int .u32 x.d3] 24)).alloc (.cells #[.int .u32 y.d0, .int .u32 y.d1, .int .u32 y.d2, .int .u32 y.d3] 24)).alloc (.cells #[.int .i64 0, .slice none 0 0, .slice none 0 0] 38) = w0) :
    Arr .u32 24 w.heap.size x.toL w0 ∧ Arr .u32 24 (w.heap.size + 1) y.toL w0 ∧ Box 38 (w.heap.size + 1 + 1) [.int .i64 0, .slice none 0 0, .slice none 0 0] w0 ∧ Below w.heap.size w w0 := by
  subst h
  obtain ⟨w1, h1⟩ : ∃ w1, (w.alloc (.cells #[.int .u32 x.d0, .int .u32 x.d1, .int .u32 x.d2, .int .u32 x.d3] 24)).alloc (.cells #[.int .u32 y.d0, .int .u32 y.d1, .int .u32 y.d2, .int .u32 y.d3] 24) = w1 := ⟨_, rfl⟩
  obtain ⟨hX, hY, hB⟩ := start47 x y w w1 h1
  have a1 : w1.heap.size = w.heap.size + 1 + 1 := by rw [← h1]; simp
  rw [h1]
  refine ⟨hX.al _, hY.al _, ?_, hB.alloc (by omega) _⟩
  rw [← a1]
  exact Box.new 38 [.int .i64 0, .slice none 0 0, .slice none 0 0] w1
/-- The path of a key. -/
def pathK (s : D4) (h i : Nat) : List D4 := wayD (keysL s h) i
theorem pathK_len (s : D4) (h i : Nat) (hh : h ≤ 4) : (pathK s h i).length ≤ 4 := by
  have := way_len pairS noneD h (keysL s h) i (by rw [keysL_len]; exact Nat.le_refl _)
  show (way pairS noneD (keysL s h) i).length ≤ 4
  omega
set_option maxHeartbeats 4000000 in
set_option maxRecDepth 100000 in
theorem rsign6_range (s msg : D4) (h i : Int) (w : World) (hh : h < 0 ∨ 4 < h) :
    Calls Tryd.prog 15 #[.agg #[.int .u32 s.d0, .int .u32 s.d1, .int .u32 s.d2, .int .u32 s.d3], .int .i64 h, .int .i64 i, .agg #[.int .u32 msg.d0, .int .u32 msg.d1, .int .u32 msg.d2, .int .u32 msg.d3]] w fun e w' => e = .returned (.tuple #[.agg #[.int .i64 0, .slice none 0 0, .slice none 0 0], .int .i64 2]) ∧ Below w.heap.size w w' := by
  obtain ⟨w0, hw0⟩ : ∃ w0, ((w.alloc (.cells #[.int .u32 s.d0, .int .u32 s.d1, .int .u32 s.d2, .int .u32 s.d3] 24)).alloc (.cells #[.int .u32 msg.d0, .int .u32 msg.d1, .int .u32 msg.d2, .int .u32 msg.d3] 24)).alloc (.cells #[.int .i64 0, .slice none 0 0, .slice none 0 0] 38) = w0 := ⟨_, rfl⟩
  obtain ⟨hA0, hM0, hR0, hB0⟩ := start47z s msg w w0 hw0
  obtain ⟨b0, b1, b2⟩ := hR0.c3
  have f0 := hR0.fz 0
  have f1 := hR0.fz 1
  have f2 := hR0.fz 2
  have hRf := hR0.put3 (.int .i64 0) (.slice none 0 0) (.slice none 0 0)
  have hBf := below_put3 hB0 (show w.heap.size ≤ w.heap.size + 1 + 1 by omega) (.int .i64 0) (.slice none 0 0) (.slice none 0 0)
  obtain ⟨g1, hg1⟩ : ∃ g, decide (h < 0) = g := ⟨_, rfl⟩
  obtain ⟨g2, hg2⟩ : ∃ g, decide (4 < h) = g := ⟨_, rfl⟩
  have hall : g1 = true ∨ g2 = true := by
    subst hg1; subst hg2
    simp
    omega
  clear hh
  go_enter Tryd.func15, Tryd.ntmps15
  cases g1 <;> cases g2 <;> simp at hall
  all_goals
    go_wp2_with fail
    generalize (((w0.setCell ⟨w.heap.size + 1 + 1, 0, none⟩ (.int .i64 0)).setCell ⟨w.heap.size + 1 + 1, 1, none⟩ (.slice none 0 0)).setCell ⟨w.heap.size + 1 + 1, 2, none⟩ (.slice none 0 0)) = wf at *
    obtain ⟨r0, r1, r2⟩ := hRf.c3
    refine bodyPost_ret (v := .tuple #[.agg #[.int .i64 0, .slice none 0 0, .slice none 0 0], .int .i64 2]) (by simp [results, Tryd.results15, go_sem, r0, r1, r2]) rfl ⟨rfl, hBf⟩
set_option maxHeartbeats 4000000 in
set_option maxRecDepth 100000 in
theorem rsign6_arg (s msg : D4) (h : Nat) (i : Int) (w : World) (hs : s.ok) (hh : h ≤ 4) (hi : i < 0 ∨ ((2 ^ h : Nat) : Int) ≤ i) :
    Calls Tryd.prog 15 #[.agg #[.int .u32 s.d0, .int .u32 s.d1, .int .u32 s.d2, .int .u32 s.d3], .int .i64 (h : Int), .int .i64 i, .agg #[.int .u32 msg.d0, .int .u32 msg.d1, .int .u32 msg.d2, .int .u32 msg.d3]] w fun e w' => e = .returned (.tuple #[.agg #[.int .i64 0, .slice none 0 0, .slice none 0 0], .int .i64 1]) ∧ Below w.heap.size w w' := by
  obtain ⟨l, hl⟩ : ∃ l, keysL s h = l := ⟨_, rfl⟩
  obtain ⟨N, hN⟩ : ∃ N, l.length = N := ⟨_, rfl⟩
  have hNb : N ≤ 16 := by rw [← hN, ← hl, keysL_len]; exact pow_le16 (Nat.le_refl _) hh
  have hNe : 2 ^ h = N := by rw [← hN, ← hl, keysL_len]
  rw [hNe] at hi
  have HL := Lib.hid hl
  have HN := Lib.hid hN
  have hd1 : decide ((h : Int) < 0) = false := by simp
  have hd2 : decide ((4 : Int) < (h : Int)) = false := by simp; omega
  clear hl hN hNe
  obtain ⟨w0, hw0⟩ : ∃ w0, ((w.alloc (.cells #[.int .u32 s.d0, .int .u32 s.d1, .int .u32 s.d2, .int .u32 s.d3] 24)).alloc (.cells #[.int .u32 msg.d0, .int .u32 msg.d1, .int .u32 msg.d2, .int .u32 msg.d3] 24)).alloc (.cells #[.int .i64 0, .slice none 0 0, .slice none 0 0] 38) = w0 := ⟨_, rfl⟩
  obtain ⟨hA0, hM0, hR0, hB0⟩ := start47z s msg w w0 hw0
  obtain ⟨l0, l1, l2, l3⟩ := Arr.c4 hA0
  go_enter Tryd.func15, Tryd.ntmps15
  go_wp2_with fail
  clear hw0
  refine (rkeys_any s h l N w0 hs hh HL.out HN.out).mono ?_
  rintro e w1 ⟨p, c, rfl, hc, hcm, hrd, hD⟩
  have hR1 := hR0.on hD
  have hB1 := hB0.trans (hD.mono hB0.size)
  clear hA0 hM0 hR0 hB0 l0 l1 l2 l3 hD hrd
  obtain ⟨b0, b1, b2⟩ := hR1.c3
  have f0 := hR1.fz 0
  have f1 := hR1.fz 1
  have f2 := hR1.fz 2
  have hRf := hR1.put3 (.int .i64 0) (.slice none 0 0) (.slice none 0 0)
  have hBf := below_put3 hB1 (show w.heap.size ≤ w.heap.size + 1 + 1 by omega) (.int .i64 0) (.slice none 0 0) (.slice none 0 0)
  obtain ⟨g1, hg1⟩ : ∃ g, decide (i < 0) = g := ⟨_, rfl⟩
  obtain ⟨g2, hg2⟩ : ∃ g, decide ((N : Int) ≤ i) = g := ⟨_, rfl⟩
  have hall : g1 = true ∨ g2 = true := by
    subst hg1; subst hg2
    simp
    omega
  clear hi
  cases g1 <;> cases g2 <;> simp at hall
  all_goals
    go_wp2_with fail
    generalize (((w1.setCell ⟨w.heap.size + 1 + 1, 0, none⟩ (.int .i64 0)).setCell ⟨w.heap.size + 1 + 1, 1, none⟩ (.slice none 0 0)).setCell ⟨w.heap.size + 1 + 1, 2, none⟩ (.slice none 0 0)) = wf at *
    obtain ⟨r0, r1, r2⟩ := hRf.c3
    refine bodyPost_ret (v := .tuple #[.agg #[.int .i64 0, .slice none 0 0, .slice none 0 0], .int .i64 1]) (by simp [results, Tryd.results15, go_sem, r0, r1, r2]) rfl ⟨rfl, hBf⟩
theorem rprove_own (l q : List D4) (i b o n cap : Nat) (w : World) (hle : l.length ≤ 1000000) (hok : allD4 l) (hi : i < l.length) (hr : RdL w b o l) (hn : n = l.length) (hc : n ≤ cap) (hm : cap ≤ maxLen) (hq : wayD l i = q) :
    Calls Tryd.prog 33 #[.slice (some ⟨b, o, none⟩) n cap, .int .i64 (i : Int)] w fun e w' => ∃ v, e = .returned (.tuple #[v, .int .i64 0]) ∧ OwnsD w.heap.size v q w' ∧ Below w.heap.size w w' := by
  subst hq; subst hn
  exact rprove_any l i b o cap w hle hok hi hr hc hm
theorem OwnsD.shape {B n : Nat} {v : Value} {l : List D4} {w : World} (h : OwnsD B v l w) (hn : l.length = n) : ∃ p c, v = .slice p n c := by
  obtain ⟨p, c, e, _⟩ := h.form
  exact ⟨p, c, by rw [e, hn]⟩
set_option maxHeartbeats 4000000 in
set_option maxRecDepth 100000 in
theorem rsign6_yes (s msg : D4) (h i : Nat) (L Q : List D4) (w : World) (hs : s.ok) (hmo : msg.ok) (hh : h ≤ 4) (hi : i < 2 ^ h) (hL : signL (seedK s i) msg = L) (hQ : pathK s h i = Q) (QN : Nat) (hQN : Q.length = QN) :
    Calls Tryd.prog 15 #[.agg #[.int .u32 s.d0, .int .u32 s.d1, .int .u32 s.d2, .int .u32 s.d3], .int .i64 (h : Int), .int .i64 (i : Int), .agg #[.int .u32 msg.d0, .int .u32 msg.d1, .int .u32 msg.d2, .int .u32 msg.d3]] w fun e w' => ∃ p c p' c', e = .returned (.tuple #[.agg #[.int .i64 (i : Int), .slice p 35 c, .slice p' QN c'], .int .i64 0]) ∧ OwnsD w.heap.size (.slice p 35 c) L w' ∧ OwnsD w.heap.size (.slice p' QN c') Q w' ∧ Below w.heap.size w w' := by
  obtain ⟨l, hl⟩ : ∃ l, keysL s h = l := ⟨_, rfl⟩
  obtain ⟨N, hN⟩ : ∃ N, l.length = N := ⟨_, rfl⟩
  have hNb : N ≤ 16 := by rw [← hN, ← hl, keysL_len]; exact pow_le16 (Nat.le_refl _) hh
  have hNe : 2 ^ h = N := by rw [← hN, ← hl, keysL_len]
  rw [hNe] at hi
  obtain ⟨z, hz⟩ : ∃ z, seedK s i = z := ⟨_, rfl⟩
  have hzo : z.ok := by rw [← hz]; exact seedK_ok s i
  rw [hz] at hL
  have HQ : Hid (wayD l i = Q) := by show _ = _; rw [← hl]; exact hQ
  have HQN := Lib.hid hQN
  have HLN := Lib.hid (show L.length = 35 by rw [← hL, signL_len])
  have HZ := Lib.hid hz
  have HZO := Lib.hid hzo
  have HS := Lib.hid hL
  have HL := Lib.hid hl
  have HN := Lib.hid hN
  have HLO := Lib.hid (show allD4 l by rw [← hl]; exact keysL_ok s h)
  have HNL := Lib.hid (show l.length ≤ 1000000 by omega)
  have HIL := Lib.hid (show i < l.length by omega)
  have hd1 : decide ((h : Int) < 0) = false := by simp
  have hd2 : decide ((4 : Int) < (h : Int)) = false := by simp; omega
  have hd3 : decide ((i : Int) < 0) = false := by simp
  have hd4 : decide ((N : Int) ≤ (i : Int)) = false := by simp; omega
  clear hl hN hNe hL hQ hz hzo hQN
  obtain ⟨w0, hw0⟩ : ∃ w0, ((w.alloc (.cells #[.int .u32 s.d0, .int .u32 s.d1, .int .u32 s.d2, .int .u32 s.d3] 24)).alloc (.cells #[.int .u32 msg.d0, .int .u32 msg.d1, .int .u32 msg.d2, .int .u32 msg.d3] 24)).alloc (.cells #[.int .i64 0, .slice none 0 0, .slice none 0 0] 38) = w0 := ⟨_, rfl⟩
  obtain ⟨hA0, hM0, hR0, hB0⟩ := start47z s msg w w0 hw0
  have hsz0 : w.heap.size + 1 + 1 < w0.heap.size := hR0.lt
  obtain ⟨l0, l1, l2, l3⟩ := Arr.c4 hA0
  go_enter Tryd.func15, Tryd.ntmps15
  go_wp2_with fail
  clear hw0
  refine (rkeys_any s h l N w0 hs hh HL.out HN.out).mono ?_
  rintro e w1 ⟨p, c, rfl, hc, hcm, hrd, hD⟩
  obtain ⟨b, o', rfl, hrl⟩ := hrd (by intro e; have := HIL.out; rw [e] at this; simp at this)
  have hA1 := hA0.on hD
  have hM1 := hM0.on hD
  have hR1 := hR0.on hD
  have hB1 := hB0.trans (hD.mono hB0.size)
  have hsz1 := Nat.lt_of_lt_of_le hsz0 hD.size
  clear hA0 hM0 hR0 hB0 l0 l1 l2 l3 hD hrd
  go_wp2_with fail
  refine (rprove_own l Q i b o' N c w1 HNL.out HLO.out HIL.out hrl HN.out.symm hc hcm HQ.out).mono ?_
  rintro e w2 ⟨v, rfl, hV, hD⟩
  obtain ⟨pv, cv, rfl⟩ := hV.shape HQN.out
  have hA2 := hA1.on hD
  have hM2 := hM1.on hD
  have hR : Box 38 (w.heap.size + 1 + 1) [.int .i64 0, .slice none 0 0, .slice none 0 0] w2.drew := hR1.on hD.drew
  have hVq : OwnsD w1.heap.size (.slice pv QN cv) Q w2.drew := hV
  have hBb : Below w.heap.size w w2.drew := (hB1.trans (hD.mono hB1.size)).drew
  have hsz2 : w.heap.size + 1 + 1 < w2.drew.heap.size := Nat.lt_of_lt_of_le hsz1 hD.size
  have hs4 := Arr.c4 (show Arr .u32 24 w.heap.size s.toL w2.drew from hA2)
  have hm4 := Arr.c4 (show Arr .u32 24 (w.heap.size + 1) msg.toL w2.drew from hM2)
  have HS0 : Hid (w2.drew.cell? ⟨w.heap.size, 0, none⟩ = some (.int .u32 s.d0) ∧ w2.drew.cell? ⟨w.heap.size, 1, none⟩ = some (.int .u32 s.d1) ∧ w2.drew.cell? ⟨w.heap.size, 2, none⟩ = some (.int .u32 s.d2) ∧ w2.drew.cell? ⟨w.heap.size, 3, none⟩ = some (.int .u32 s.d3) ∧ w2.drew.cell? ⟨w.heap.size + 1, 0, none⟩ = some (.int .u32 msg.d0) ∧ w2.drew.cell? ⟨w.heap.size + 1, 1, none⟩ = some (.int .u32 msg.d1) ∧ w2.drew.cell? ⟨w.heap.size + 1, 2, none⟩ = some (.int .u32 msg.d2) ∧ w2.drew.cell? ⟨w.heap.size + 1, 3, none⟩ = some (.int .u32 msg.d3)) := ⟨hs4.1, hs4.2.1, hs4.2.2.1, hs4.2.2.2, hm4.1, hm4.2.1, hm4.2.2.1, hm4.2.2.2⟩
  have hb1 : w.heap.size < w.heap.size + 1 + 1 := by omega
  have hb2 : w.heap.size + 1 < w.heap.size + 1 + 1 := by omega
  have hle : w.heap.size + 1 + 1 ≤ w2.drew.heap.size := Nat.le_of_lt hsz2
  have hCur : Below w2.drew.heap.size w2.drew w2.drew := Below.refl _ _
  clear hA1 hM1 hR1 hB1 hA2 hM2 hs4 hm4 hD hV hrl
  go_wp2_with fail
  go_region_held3 (fun w' => w'.cell? ⟨w.heap.size, 0, none⟩ = some (.int .u32 s.d0) ∧ w'.cell? ⟨w.heap.size, 1, none⟩ = some (.int .u32 s.d1) ∧ w'.cell? ⟨w.heap.size, 2, none⟩ = some (.int .u32 s.d2) ∧ w'.cell? ⟨w.heap.size, 3, none⟩ = some (.int .u32 s.d3) ∧ w'.cell? ⟨w.heap.size + 1, 0, none⟩ = some (.int .u32 msg.d0) ∧ w'.cell? ⟨w.heap.size + 1, 1, none⟩ = some (.int .u32 msg.d1) ∧ w'.cell? ⟨w.heap.size + 1, 2, none⟩ = some (.int .u32 msg.d2) ∧ w'.cell? ⟨w.heap.size + 1, 3, none⟩ = some (.int .u32 msg.d3))
    (first
      | exact keepK2 (hCur.mono hle) hb1 hb2 HS0.out
      | exact keepK2 (below_put3 (hCur.mono hle) (Nat.le_refl _) _ _ _) hb1 hb2 HS0.out)
    (first
      | (go_at_call 25; (with_reducible refine (rseed_any s z i _ hs (by omega) HZ.out).mono ?_); rintro e w3 ⟨rfl, hP⟩; have hR := hR.on hP; have hVq := hVq.on hP; have hCur : Below w2.drew.heap.size w2.drew w3 := hCur.trans (hP.mono hCur.size))
      | (go_at_call 34; (with_reducible refine (rsign_own z msg L _ HZO.out hmo HS.out).mono ?_); rintro e w4 ⟨u, rfl, hU, hP⟩; obtain ⟨pu, cu, rfl⟩ := hU.shape HLN.out; have hR := hR.on hP; have hVq := hVq.on hP; have hz3 := hCur.size; have hCur : Below w2.drew.heap.size w2.drew w4 := hCur.trans (hP.mono hCur.size); obtain ⟨k0, k1, k2⟩ := hR.c3; have f0 := hR.fz 0; have f1 := hR.fz 1; have f2 := hR.fz 2))
  have hRf := hR.put3 (.int .i64 (i : Int)) (.slice pu 35 cu) (.slice pv QN cv)
  have hBf := below_put3 (hBb.trans (hCur.mono (show w.heap.size ≤ w2.drew.heap.size from hBb.size))) (show w.heap.size ≤ w.heap.size + 1 + 1 by omega) (.int .i64 (i : Int)) (.slice pu 35 cu) (.slice pv QN cv)
  have hU2 := ((hU.far (a := ⟨w.heap.size + 1 + 1, 0, none⟩) (Nat.lt_of_lt_of_le hsz2 hz3) (.int .i64 (i : Int))).far (a := ⟨w.heap.size + 1 + 1, 1, none⟩) (Nat.lt_of_lt_of_le hsz2 hz3) (.slice pu 35 cu)).far (a := ⟨w.heap.size + 1 + 1, 2, none⟩) (Nat.lt_of_lt_of_le hsz2 hz3) (.slice pv QN cv)
  have hV2 := ((hVq.far (a := ⟨w.heap.size + 1 + 1, 0, none⟩) hsz1 (.int .i64 (i : Int))).far (a := ⟨w.heap.size + 1 + 1, 1, none⟩) hsz1 (.slice pu 35 cu)).far (a := ⟨w.heap.size + 1 + 1, 2, none⟩) hsz1 (.slice pv QN cv)
  have hU3 := hU2.lower (Nat.le_trans hBb.size hz3)
  have hV3 := hV2.lower (show w.heap.size ≤ w1.heap.size by omega)
  clear hU hVq hU2 hV2
  go_wp2_with fail
  generalize (((w4.setCell ⟨w.heap.size + 1 + 1, 0, none⟩ (.int .i64 (i : Int))).setCell ⟨w.heap.size + 1 + 1, 1, none⟩ (.slice pu 35 cu)).setCell ⟨w.heap.size + 1 + 1, 2, none⟩ (.slice pv QN cv)) = wf at *
  obtain ⟨r0, r1, r2⟩ := hRf.c3
  refine bodyPost_ret (v := .tuple #[.agg #[.int .i64 (i : Int), .slice pu 35 cu, .slice pv QN cv], .int .i64 0]) (by simp [results, Tryd.results15, go_sem, r0, r1, r2]) rfl ⟨pu, cu, pv, cv, rfl, hU3, hV3, hBf⟩
end Go.Proofs.YtdphhpmkcalahaaDoor
