/-
  What two signatures give away, as mathematics; the code's Ahead (written by gen_ahead.py).
-/
import Derived.Test.YtkgkmpelclmllaaDoorOtH
import Derived.Deep.RegionHeld3
namespace Go.Proofs.YtkgkmpelclmllaaDoor
open Go.RowKit

/-- Does the other signature show at this chain what lies ahead? -/
def showsB (msg other : D4) (S T : List D4) (i : Nat) : Bool := decide (num other i < num msg i) && sameD (walkD (T.getD i zeroD) (num msg i - num other i)) (S.getD i zeroD)
/-- The first such place, from one on, among so many. -/
def seekP (p : Nat → Bool) (k : Nat) : Nat → Option Nat
  | 0 => none
  | m + 1 => if p k = true then some k else seekP p (k + 1) m
def aheadO (msg other : D4) (S T : List D4) : Option Nat := if S.length = 35 ∧ T.length = 35 then seekP (showsB msg other S T) 0 35 else none
def aI : Option Nat → Nat
  | none => 0
  | some i => i
def aB : Option Nat → Bool
  | none => false
  | some _ => true
def aD (T : List D4) : Option Nat → D4
  | none => zeroD
  | some i => T.getD i zeroD
theorem seekP_yes (p : Nat → Bool) (k m : Nat) (h : p k = true) : seekP p k (m + 1) = some k := by rw [seekP, if_pos h]
theorem seekP_no (p : Nat → Bool) (k m : Nat) (h : p k = false) : seekP p k (m + 1) = seekP p (k + 1) m := by rw [seekP, if_neg (by rw [h]; decide)]
theorem aD_ok {T : List D4} (h : allD4 T) (o : Option Nat) : (aD T o).ok := by
  cases o with
  | none => simp [aD, zeroD, D4.ok, isW]
  | some i => exact getD_ok h i
/-- Nine cells of blocks below. -/
theorem keep9 {W w' : World} {B1 o1 b2 o2 b3 o3 : Nat} {u : Int} {x y : D4} (h : Below W.heap.size W w') (f : W.cell? ⟨B1, o1, none⟩ = some (.int .i64 u) ∧ W.cell? ⟨b2, o2, none⟩ = some (.int .u32 x.d0) ∧ W.cell? ⟨b2, o2 + 1, none⟩ = some (.int .u32 x.d1) ∧ W.cell? ⟨b2, o2 + 2, none⟩ = some (.int .u32 x.d2) ∧ W.cell? ⟨b2, o2 + 3, none⟩ = some (.int .u32 x.d3) ∧ W.cell? ⟨b3, o3, none⟩ = some (.int .u32 y.d0) ∧ W.cell? ⟨b3, o3 + 1, none⟩ = some (.int .u32 y.d1) ∧ W.cell? ⟨b3, o3 + 2, none⟩ = some (.int .u32 y.d2) ∧ W.cell? ⟨b3, o3 + 3, none⟩ = some (.int .u32 y.d3)) : w'.cell? ⟨B1, o1, none⟩ = some (.int .i64 u) ∧ w'.cell? ⟨b2, o2, none⟩ = some (.int .u32 x.d0) ∧ w'.cell? ⟨b2, o2 + 1, none⟩ = some (.int .u32 x.d1) ∧ w'.cell? ⟨b2, o2 + 2, none⟩ = some (.int .u32 x.d2) ∧ w'.cell? ⟨b2, o2 + 3, none⟩ = some (.int .u32 x.d3) ∧ w'.cell? ⟨b3, o3, none⟩ = some (.int .u32 y.d0) ∧ w'.cell? ⟨b3, o3 + 1, none⟩ = some (.int .u32 y.d1) ∧ w'.cell? ⟨b3, o3 + 2, none⟩ = some (.int .u32 y.d2) ∧ w'.cell? ⟨b3, o3 + 3, none⟩ = some (.int .u32 y.d3) := by
  obtain ⟨f0, f1, f2, f3, f4, f5, f6, f7, f8⟩ := f
  exact ⟨by rw [h.cell (p := ⟨_, _, none⟩) (cell_lt f0)]; exact f0, by rw [h.cell (p := ⟨_, _, none⟩) (cell_lt f1)]; exact f1, by rw [h.cell (p := ⟨_, _, none⟩) (cell_lt f2)]; exact f2, by rw [h.cell (p := ⟨_, _, none⟩) (cell_lt f3)]; exact f3, by rw [h.cell (p := ⟨_, _, none⟩) (cell_lt f4)]; exact f4, by rw [h.cell (p := ⟨_, _, none⟩) (cell_lt f5)]; exact f5, by rw [h.cell (p := ⟨_, _, none⟩) (cell_lt f6)]; exact f6, by rw [h.cell (p := ⟨_, _, none⟩) (cell_lt f7)]; exact f7, by rw [h.cell (p := ⟨_, _, none⟩) (cell_lt f8)]; exact f8⟩
theorem calong_raw (x : D4) (w : World) : Calls Tryd.prog 32 #[.agg #[.int .u32 x.d0, .int .u32 x.d1, .int .u32 x.d2, .int .u32 x.d3]] w fun e w' => e = .returned (.func (.func 36) #[] #[.pointer (some ⟨w.heap.size, 0, none⟩)]) ∧ Arr .u32 24 w.heap.size x.toL w' ∧ Below w.heap.size w w' := calong_any x w
theorem cstart443 (a b : D4) (w w0 : World) (h : ((w.alloc (.cells #[.int .u32 a.d0, .int .u32 a.d1, .int .u32 a.d2, .int .u32 a.d3] 24)).alloc (.cells #[.int .u32 b.d0, .int .u32 b.d1, .int .u32 b.d2, .int .u32 b.d3] 24)).alloc (.cells #[.int .u32 0, .int .u32 0, .int .u32 0, .int .u32 0] 24) = w0) :
    Arr .u32 24 w.heap.size a.toL w0 ∧ Arr .u32 24 (w.heap.size + 1) b.toL w0 ∧ Arr .u32 24 (w.heap.size + 1 + 1) [0, 0, 0, 0] w0 ∧ Below w.heap.size w w0 := start444 a b w w0 h


set_option maxHeartbeats 2000000 in
set_option maxRecDepth 100000 in
theorem cahead_no (msg other : D4) (p q : Option Addr) (n m sc tc : Nat) (w : World) (hn : n ≠ 35 ∨ m ≠ 35) :
    Calls Tryd.prog 23 #[.agg #[.int .u32 msg.d0, .int .u32 msg.d1, .int .u32 msg.d2, .int .u32 msg.d3], .slice p n sc, .agg #[.int .u32 other.d0, .int .u32 other.d1, .int .u32 other.d2, .int .u32 other.d3], .slice q m tc] w fun e w' => e = .returned (.tuple #[.int .i64 0, zeroD.val, .bool false]) ∧ Below w.heap.size w w' := by
  obtain ⟨w0, hw0⟩ : ∃ w0, ((w.alloc (.cells #[.int .u32 msg.d0, .int .u32 msg.d1, .int .u32 msg.d2, .int .u32 msg.d3] 24)).alloc (.cells #[.int .u32 other.d0, .int .u32 other.d1, .int .u32 other.d2, .int .u32 other.d3] 24)).alloc (.cells #[.int .u32 0, .int .u32 0, .int .u32 0, .int .u32 0] 24) = w0 := ⟨_, rfl⟩
  obtain ⟨_, _, hR0, hB0⟩ := cstart443 msg other w w0 hw0
  obtain ⟨b0, b1, b2, b3⟩ := Arr.c4 (d := zeroD) hR0
  obtain ⟨f0, f1, f2, f3⟩ := hR0.f4
  have hRf := put4 (d := zeroD) hR0 rfl
  have hBf := below_put4 hB0 (show w.heap.size ≤ w.heap.size + 1 + 1 by omega) zeroD
  simp only [zeroD] at b0 b1 b2 b3 hRf hBf
  obtain ⟨g1, hg1⟩ : ∃ g, ((n : Int) != 35) = g := ⟨_, rfl⟩
  obtain ⟨g2, hg2⟩ : ∃ g, ((m : Int) != 35) = g := ⟨_, rfl⟩
  have hall : g1 = true ∨ g2 = true := by
    subst hg1; subst hg2
    simp
    omega
  have hg1' : ((n : Int) == 35) = !g1 := by rw [← hg1, bne, Bool.not_not]
  have hg2' : ((m : Int) == 35) = !g2 := by rw [← hg2, bne, Bool.not_not]
  clear hn
  go_enter Tryd.func23, Tryd.ntmps23
  cases g1 <;> cases g2 <;> simp at hall <;>
  (go_wp2_with fail
   generalize (((w0.setCell ⟨w.heap.size + 1 + 1, 0, none⟩ (.int .u32 0)).setCell ⟨w.heap.size + 1 + 1, 1, none⟩ (.int .u32 0)).setCell ⟨w.heap.size + 1 + 1, 2, none⟩ (.int .u32 0)).setCell ⟨w.heap.size + 1 + 1, 3, none⟩ (.int .u32 0) = wf at *
   obtain ⟨r0, r1, r2, r3⟩ := hRf.c4
   simp only at r0 r1 r2 r3
   refine bodyPost_ret (v := .tuple #[.int .i64 0, zeroD.val, .bool false]) (by simp [results, Tryd.results23, go_sem, D4.val, zeroD, r0, r1, r2, r3]) rfl ⟨rfl, hBf⟩)


set_option maxHeartbeats 8000000 in
set_option maxRecDepth 100000 in
theorem cahead_yes (msg other : D4) (S T : List D4) (bs os scap bt ot tcap : Nat) (w : World) (hmo : msg.ok) (hoo : other.ok) (hSo : allD4 S) (hTo : allD4 T) (hSl : S.length = 35) (hTl : T.length = 35) (hrS : RdL w bs os S) (hrT : RdL w bt ot T) (_hsc : 35 ≤ scap) (_hscm : scap ≤ maxLen) (_htc : 35 ≤ tcap) (_htcm : tcap ≤ maxLen) (hT : TurnsOk w) (O : Option Nat) (hO : seekP (showsB msg other S T) 0 35 = O) :
    Calls Tryd.prog 23 #[.agg #[.int .u32 msg.d0, .int .u32 msg.d1, .int .u32 msg.d2, .int .u32 msg.d3], .slice (some ⟨bs, os, none⟩) 35 scap, .agg #[.int .u32 other.d0, .int .u32 other.d1, .int .u32 other.d2, .int .u32 other.d3], .slice (some ⟨bt, ot, none⟩) 35 tcap] w fun e w' => e = .returned (.tuple #[.int .i64 ((aI O : Nat) : Int), (aD T O).val, .bool (aB O)]) ∧ Below w.heap.size w w' := by
  unfold maxLen at _hscm _htcm
  have hbs := hrS.1
  have hbt := hrT.1
  obtain ⟨Na, hNa⟩ : ∃ N, numL msg = N := ⟨_, rfl⟩
  obtain ⟨Nb, hNb⟩ : ∃ N, numL other = N := ⟨_, rfl⟩
  have hal : Na.length = 35 := by rw [← hNa, numL_len]
  have hbl : Nb.length = 35 := by rw [← hNb, numL_len]
  have HA : Hid (∀ i, num msg i = Na.getD i 0) := fun i => by rw [num, hNa]
  have HB : Hid (∀ i, num other i = Nb.getD i 0) := fun i => by rw [num, hNb]
  have HNa := Lib.hid hNa
  have HNb := Lib.hid hNb
  obtain ⟨pr, hpr⟩ : ∃ p, showsB msg other S T = p := ⟨_, rfl⟩
  rw [hpr] at hO
  have HP : Hid (∀ i, pr i = showsB msg other S T i) := fun i => by rw [hpr]
  obtain ⟨w0, hw0⟩ : ∃ w0, ((w.alloc (.cells #[.int .u32 msg.d0, .int .u32 msg.d1, .int .u32 msg.d2, .int .u32 msg.d3] 24)).alloc (.cells #[.int .u32 other.d0, .int .u32 other.d1, .int .u32 other.d2, .int .u32 other.d3] 24)).alloc (.cells #[.int .u32 0, .int .u32 0, .int .u32 0, .int .u32 0] 24) = w0 := ⟨_, rfl⟩
  obtain ⟨hM0, hO0, hR0, hB0⟩ := cstart443 msg other w w0 hw0
  have hT0 := hT.below hB0
  have hS0 := hrS.on hB0
  have hX0 := hrT.on hB0
  have hs1 := hM0.lt
  have hs2 := hO0.lt
  have hs3 := hR0.lt
  have hgT : 0 < w0.heap.size := tab_low hT0 gTrn
  have HSo := Lib.hid hSo
  have HSl := Lib.hid hSl
  have HTo := Lib.hid hTo
  have HTl := Lib.hid hTl
  have HO := Lib.hid hO
  obtain ⟨m0, m1, m2, m3⟩ := Arr.c4 hO0
  clear hT hNa hNb hrS hrT hSo hSl hTo hTl hpr hO
  go_enter Tryd.func23, Tryd.ntmps23
  go_wp2_with fail
  clear hw0
  refine (csteps_val other Nb w0 hoo HNb.out).mono ?_
  rintro e w1 ⟨gb, cb, rfl, hgb, hcb, hcbm, hRb, hD1⟩
  have hM1 := hM0.on hD1
  have hC1 : Below w0.heap.size w0 w1 := hD1
  obtain ⟨n0, n1, n2, n3⟩ := Arr.c4 hM1
  clear m0 m1 m2 m3 hD1
  go_wp2_with fail
  refine (csteps_val msg Na w1 hmo HNa.out).mono ?_
  rintro e w2 ⟨ga, ca, rfl, hga, hca, hcam, hRa, hD2⟩
  have hRb2 := hRb.on hD2
  have hC2 := hC1.trans (hD2.mono hC1.size)
  unfold maxLen at hcbm hcam
  clear hM1 n0 n1 n2 n3 hD2 hC1 hRb
  go_wp2_with fail
  go_loopw [28] (fun i wr => ∃ k : Nat, k ≤ 35 ∧ i = .int .i64 (k : Int) ∧ RdN wr ga Na ∧ RdN wr gb Nb ∧ Hid (seekP pr k (35 - k) = O) ∧ Below w0.heap.size w0 wr) (fun i _ => 35 - (intOf i).toNat)
  case atStart => exact ⟨0, Nat.zero_le _, rfl, hRa, hRb2, HO, hC2⟩
  case round =>
    clear hRa hRb2 hC2
    obtain ⟨k, hk, rfl, hRa, hRb, HK, hC⟩ := hrel
    have hR := hR0.thr hC hs3
    have hB := hB0.trans (hC.mono hB0.size)
    by_cases hlt : k < 35
    · have hkd : decide ((k : Int) < 35) = true := by simp; omega
      have hk0 : (0 : Int) ≤ (k : Int) := by omega
      have hk1 : (k : Int) < 35 := by omega
      have hTr := turns_far hT0 hgT hC
      have hca0 := hRa.2 k (by omega)
      have hcb0 := hRb.2 k (by omega)
      have ha15 := num_le msg k
      have hb15 := num_le other k
      rw [HA.out k] at ha15
      rw [HB.out k] at hb15
      obtain ⟨na, hna⟩ : ∃ n, Na.getD k 0 = n := ⟨_, rfl⟩
      obtain ⟨nb, hnb⟩ : ∃ n, Nb.getD k 0 = n := ⟨_, rfl⟩
      rw [hna] at hca0 ha15
      rw [hnb] at hcb0 hb15
      have hSk := (hS0.thr hC (by omega) hC.size).2 k (by rw [HSl.out]; exact hlt)
      have hTk := (hX0.thr hC (by omega) hC.size).2 k (by rw [HTl.out]; exact hlt)
      obtain ⟨y, hy⟩ : ∃ y, S.getD k zeroD = y := ⟨_, rfl⟩
      obtain ⟨x, hx⟩ : ∃ x, T.getD k zeroD = x := ⟨_, rfl⟩
      rw [hy] at hSk
      rw [hx] at hTk
      have hxo : x.ok := by rw [← hx]; exact getD_ok HTo.out k
      have HXO := Lib.hid hxo
      have HX := Lib.hid hx
      by_cases hg : nb < na
      · have hdg : decide ((nb : Int) < (na : Int)) = true := by simp; omega
        obtain ⟨z, hz⟩ : ∃ z, walkD x (na - nb) = z := ⟨_, rfl⟩
        obtain ⟨s, hs⟩ : ∃ s, sameD z y = s := ⟨_, rfl⟩
        have HPK : Hid (pr k = s) := by
          show _ = _
          rw [HP.out k, showsB, HA.out k, HB.out k, hna, hnb, hy, hx, hz, hs, decide_eq_true hg]; rfl
        have hE := eqD_run z y
        rw [hs] at hE
        have HZ := Lib.hid hz
        have hwr : IntKind.i64.wrap ((na : Int) - (nb : Int)) = ((na - nb : Nat) : Int) := by rw [IntWalk.i64_in _ (by omega)]; omega
        clear hz hs hy hx hna hnb hxo
        have HS0 : Hid (wr.drew.cell? ⟨gb, k, none⟩ = some (.int .i64 (nb : Int)) ∧ wr.drew.cell? ⟨bt, ot + k * 4, none⟩ = some (.int .u32 x.d0) ∧ wr.drew.cell? ⟨bt, ot + k * 4 + 1, none⟩ = some (.int .u32 x.d1) ∧ wr.drew.cell? ⟨bt, ot + k * 4 + 2, none⟩ = some (.int .u32 x.d2) ∧ wr.drew.cell? ⟨bt, ot + k * 4 + 3, none⟩ = some (.int .u32 x.d3) ∧ wr.drew.cell? ⟨bs, os + k * 4, none⟩ = some (.int .u32 y.d0) ∧ wr.drew.cell? ⟨bs, os + k * 4 + 1, none⟩ = some (.int .u32 y.d1) ∧ wr.drew.cell? ⟨bs, os + k * 4 + 2, none⟩ = some (.int .u32 y.d2) ∧ wr.drew.cell? ⟨bs, os + k * 4 + 3, none⟩ = some (.int .u32 y.d3)) := ⟨hcb0, hTk.1, hTk.2.1, hTk.2.2.1, hTk.2.2.2, hSk.1, hSk.2.1, hSk.2.2.1, hSk.2.2.2⟩
        have hgw : 0 < wr.heap.size := tab_low hTr gTrn
        have hTd : TurnsOk wr.drew := hTr
        go_wp2_with fail
        go_region_held3 (fun w' => w'.cell? ⟨gb, k, none⟩ = some (.int .i64 (nb : Int)) ∧ w'.cell? ⟨bt, ot + k * 4, none⟩ = some (.int .u32 x.d0) ∧ w'.cell? ⟨bt, ot + k * 4 + 1, none⟩ = some (.int .u32 x.d1) ∧ w'.cell? ⟨bt, ot + k * 4 + 2, none⟩ = some (.int .u32 x.d2) ∧ w'.cell? ⟨bt, ot + k * 4 + 3, none⟩ = some (.int .u32 x.d3) ∧ w'.cell? ⟨bs, os + k * 4, none⟩ = some (.int .u32 y.d0) ∧ w'.cell? ⟨bs, os + k * 4 + 1, none⟩ = some (.int .u32 y.d1) ∧ w'.cell? ⟨bs, os + k * 4 + 2, none⟩ = some (.int .u32 y.d2) ∧ w'.cell? ⟨bs, os + k * 4 + 3, none⟩ = some (.int .u32 y.d3))
          (first | (exact keep9 hF1 HS0.out) | ((with_reducible refine keep9 hA1 ?_); assumption) | (with_reducible exact HS0.out))
          (first
            | (go_at_call 32; (with_reducible refine (calong_raw x _).mono ?_); rintro e w3 ⟨rfl, hY3, hA1⟩; have hT3 := hTd.below hA1; have hY4 : Arr .u32 24 wr.heap.size x.toL w3 := hY3)
            | (go_at_call 36; (with_reducible refine (cwalk_val wr.heap.size wr.heap.size (na - nb) _ x z _ HXO.out hY4 (Nat.le_refl _) hT3 hgw (by omega) (by omega) HZ.out).mono ?_); rintro e w4 ⟨rfl, hE1⟩; have hF1 : Below wr.drew.heap.size wr.drew w4 := hA1.trans hE1))
        have hF2 : Below wr.heap.size wr w4 := ((Below.refl _ wr).drew).trans hF1
        have hR4 : Arr .u32 24 (w.heap.size + 1 + 1) [0, 0, 0, 0] w4 := hR.on hF2
        have hB4 : Below w.heap.size w w4 := hB.trans (hF2.mono hB.size)
        have hC4 : Below w0.heap.size w0 w4 := hC.trans (hF2.mono hC.size)
        have hRa4 : RdN w4 ga Na := hRa.on hF2
        have hRb4 : RdN w4 gb Nb := hRb.on hF2
        obtain ⟨x0, x1, x2, x3⟩ := (keep9 hF1 HS0.out).2
        obtain ⟨x3, _⟩ := x3
        clear hR hB hC hRa hRb hSk hTk hE hwr hTr hca0 hcb0 hTd hgw hY3 hY4 hT3 hA1 hE1 hF1 hF2
        cases s
        · go_wp2_with fail
          go_roundw
          case rel => exact ⟨k + 1, by omega, by go_num, hRa4, hRb4, by show _ = _; rw [← seekP_no pr k (35 - (k + 1)) HPK.out, show 35 - (k + 1) + 1 = 35 - k by omega]; exact HK.out, hC4⟩
          case measure => simp [intOf]; omega
        · obtain ⟨b0, b1, b2, b3⟩ := Arr.c4 (d := zeroD) hR4
          obtain ⟨f0, f1, f2, f3⟩ := hR4.f4
          have hRf := put4 (d := x) hR4 rfl
          have hBf := below_put4 hB4 (show w.heap.size ≤ w.heap.size + 1 + 1 by omega) x
          have HEO : Hid (O = some k) := by
            show _ = _
            rw [← HK.out, show 35 - k = (34 - k) + 1 by omega, seekP_yes pr k _ HPK.out]
          go_wp2_with fail
          go_region
          all_goals
            go_wp2_with fail
            generalize (((w4.setCell ⟨w.heap.size + 1 + 1, 0, none⟩ (.int .u32 x.d0)).setCell ⟨w.heap.size + 1 + 1, 1, none⟩ (.int .u32 x.d1)).setCell ⟨w.heap.size + 1 + 1, 2, none⟩ (.int .u32 x.d2)).setCell ⟨w.heap.size + 1 + 1, 3, none⟩ (.int .u32 x.d3) = wf at *
            obtain ⟨r0, r1, r2, r3⟩ := Arr.c4 (show Arr .u32 24 (w.heap.size + 1 + 1) x.toL wf.drew from hRf)
            refine bodyPost_ret (v := .tuple #[.int .i64 (k : Int), x.val, .bool true]) (by simp [results, Tryd.results23, go_sem, D4.val, r0, r1, r2, r3]) rfl ⟨by rw [HEO.out]; show _ = Ending.returned (.tuple #[.int .i64 (k : Int), (T.getD k zeroD).val, .bool true]); rw [HX.out], hBf.drew⟩
      · have hdg : decide ((nb : Int) < (na : Int)) = false := by simp; omega
        have HPK : Hid (pr k = false) := by
          show _ = _
          rw [HP.out k, showsB, HA.out k, HB.out k, hna, hnb, decide_eq_false hg]; rfl
        clear hy hx hna hnb hxo
        go_wp2_with fail
        go_region
        all_goals
          go_wp2_with fail
          go_roundw
          case rel => exact ⟨k + 1, by omega, by go_num, hRa, hRb, by show _ = _; rw [← seekP_no pr k (35 - (k + 1)) HPK.out, show 35 - (k + 1) + 1 = 35 - k by omega]; exact HK.out, hC.drew⟩
          case measure => simp [intOf]; omega
    · have hk35 : k = 35 := by omega
      subst hk35
      have HEO : Hid (O = none) := by show _ = _; rw [← HK.out]; rfl
      obtain ⟨b0, b1, b2, b3⟩ := Arr.c4 (d := zeroD) hR
      obtain ⟨f0, f1, f2, f3⟩ := hR.f4
      have hRf := put4 (d := zeroD) hR rfl
      have hBf := below_put4 hB (show w.heap.size ≤ w.heap.size + 1 + 1 by omega) zeroD
      simp only [zeroD] at b0 b1 b2 b3 hRf hBf
      go_wp2_with fail
      generalize (((wr.setCell ⟨w.heap.size + 1 + 1, 0, none⟩ (.int .u32 0)).setCell ⟨w.heap.size + 1 + 1, 1, none⟩ (.int .u32 0)).setCell ⟨w.heap.size + 1 + 1, 2, none⟩ (.int .u32 0)).setCell ⟨w.heap.size + 1 + 1, 3, none⟩ (.int .u32 0) = wf at *
      obtain ⟨r0, r1, r2, r3⟩ := hRf.c4
      simp only at r0 r1 r2 r3
      refine bodyPost_ret (v := .tuple #[.int .i64 0, zeroD.val, .bool false]) (by simp [results, Tryd.results23, go_sem, D4.val, zeroD, r0, r1, r2, r3]) rfl ⟨by rw [HEO.out]; rfl, hBf⟩

theorem cahead_any (msg other : D4) (S T : List D4) (p q : Option Addr) (n m sc tc : Nat) (w : World) (hmo : msg.ok) (hoo : other.ok) (hSo : allD4 S) (hTo : allD4 T) (hn : n = S.length) (hm : m = T.length) (hrS : RdS w p S) (hrT : RdS w q T) (hsc : S.length ≤ sc) (hscm : sc ≤ maxLen) (htc : T.length ≤ tc) (htcm : tc ≤ maxLen) (hT : TurnsOk w) (O : Option Nat) (hO : aheadO msg other S T = O) (i : Int) (hi : ((aI O : Nat) : Int) = i) (x : D4) (hx : aD T O = x) (g : Bool) (hg : aB O = g) :
    Calls Tryd.prog 23 #[.agg #[.int .u32 msg.d0, .int .u32 msg.d1, .int .u32 msg.d2, .int .u32 msg.d3], .slice p n sc, .agg #[.int .u32 other.d0, .int .u32 other.d1, .int .u32 other.d2, .int .u32 other.d3], .slice q m tc] w fun e w' => e = .returned (.tuple #[.int .i64 i, .agg #[.int .u32 x.d0, .int .u32 x.d1, .int .u32 x.d2, .int .u32 x.d3], .bool g]) ∧ Below w.heap.size w w' := by
  subst hi; subst hx; subst hg; subst hn; subst hm
  by_cases h : S.length = 35 ∧ T.length = 35
  · rw [aheadO, if_pos h] at hO
    obtain ⟨h1, h2⟩ := h
    obtain ⟨bs, os, rfl, hrS1⟩ := hrS (by intro e; subst e; simp at h1)
    obtain ⟨bt, ot, rfl, hrT1⟩ := hrT (by intro e; subst e; simp at h2)
    rw [h1] at hsc ⊢
    rw [h2] at htc ⊢
    exact cahead_yes msg other S T bs os sc bt ot tc w hmo hoo hSo hTo h1 h2 hrS1 hrT1 hsc hscm htc htcm hT O hO
  · rw [aheadO, if_neg h] at hO
    subst hO
    exact cahead_no msg other p q S.length T.length sc tc w (by omega)
end Go.Proofs.YtkgkmpelclmllaaDoor
