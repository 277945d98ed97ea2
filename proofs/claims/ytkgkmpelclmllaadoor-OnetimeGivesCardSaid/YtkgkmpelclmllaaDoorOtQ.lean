/-
  The document's Ahead (written by gen_ahead.py).
-/
import Derived.Test.YtkgkmpelclmllaaDoorOtI
import Derived.Test.YtkgkmpelclmllaaDoorOtO
namespace Go.Proofs.YtkgkmpelclmllaaDoor
open Go.RowKit

theorem keep10 {W w' : World} {B0 o0 B1 o1 b2 o2 b3 o3 : Nat} {u v : Int} {x y : D4} (h : Below W.heap.size W w') (f : W.cell? ⟨B0, o0, none⟩ = some (.int .i64 v) ∧ W.cell? ⟨B1, o1, none⟩ = some (.int .i64 u) ∧ W.cell? ⟨b2, o2, none⟩ = some (.int .u32 x.d0) ∧ W.cell? ⟨b2, o2 + 1, none⟩ = some (.int .u32 x.d1) ∧ W.cell? ⟨b2, o2 + 2, none⟩ = some (.int .u32 x.d2) ∧ W.cell? ⟨b2, o2 + 3, none⟩ = some (.int .u32 x.d3) ∧ W.cell? ⟨b3, o3, none⟩ = some (.int .u32 y.d0) ∧ W.cell? ⟨b3, o3 + 1, none⟩ = some (.int .u32 y.d1) ∧ W.cell? ⟨b3, o3 + 2, none⟩ = some (.int .u32 y.d2) ∧ W.cell? ⟨b3, o3 + 3, none⟩ = some (.int .u32 y.d3)) : w'.cell? ⟨B0, o0, none⟩ = some (.int .i64 v) ∧ w'.cell? ⟨B1, o1, none⟩ = some (.int .i64 u) ∧ w'.cell? ⟨b2, o2, none⟩ = some (.int .u32 x.d0) ∧ w'.cell? ⟨b2, o2 + 1, none⟩ = some (.int .u32 x.d1) ∧ w'.cell? ⟨b2, o2 + 2, none⟩ = some (.int .u32 x.d2) ∧ w'.cell? ⟨b2, o2 + 3, none⟩ = some (.int .u32 x.d3) ∧ w'.cell? ⟨b3, o3, none⟩ = some (.int .u32 y.d0) ∧ w'.cell? ⟨b3, o3 + 1, none⟩ = some (.int .u32 y.d1) ∧ w'.cell? ⟨b3, o3 + 2, none⟩ = some (.int .u32 y.d2) ∧ w'.cell? ⟨b3, o3 + 3, none⟩ = some (.int .u32 y.d3) :=
  ⟨by rw [h.cell (p := ⟨_, _, none⟩) (cell_lt f.1)]; exact f.1, keep9 h f.2⟩
theorem keep8b {B b c : Nat} {W w' : World} {x y : D4} (h : Below B W w') (hb : b < B) (hc : c < B) (f : W.cell? ⟨b, 0, none⟩ = some (.int .u32 x.d0) ∧ W.cell? ⟨b, 1, none⟩ = some (.int .u32 x.d1) ∧ W.cell? ⟨b, 2, none⟩ = some (.int .u32 x.d2) ∧ W.cell? ⟨b, 3, none⟩ = some (.int .u32 x.d3) ∧ W.cell? ⟨c, 0, none⟩ = some (.int .u32 y.d0) ∧ W.cell? ⟨c, 1, none⟩ = some (.int .u32 y.d1) ∧ W.cell? ⟨c, 2, none⟩ = some (.int .u32 y.d2) ∧ W.cell? ⟨c, 3, none⟩ = some (.int .u32 y.d3)) : w'.cell? ⟨b, 0, none⟩ = some (.int .u32 x.d0) ∧ w'.cell? ⟨b, 1, none⟩ = some (.int .u32 x.d1) ∧ w'.cell? ⟨b, 2, none⟩ = some (.int .u32 x.d2) ∧ w'.cell? ⟨b, 3, none⟩ = some (.int .u32 x.d3) ∧ w'.cell? ⟨c, 0, none⟩ = some (.int .u32 y.d0) ∧ w'.cell? ⟨c, 1, none⟩ = some (.int .u32 y.d1) ∧ w'.cell? ⟨c, 2, none⟩ = some (.int .u32 y.d2) ∧ w'.cell? ⟨c, 3, none⟩ = some (.int .u32 y.d3) := by
  obtain ⟨f0, f1, f2, f3, f4, f5, f6, f7⟩ := f
  exact ⟨by rw [h.cell (p := ⟨_, _, none⟩) hb]; exact f0, by rw [h.cell (p := ⟨_, _, none⟩) hb]; exact f1, by rw [h.cell (p := ⟨_, _, none⟩) hb]; exact f2, by rw [h.cell (p := ⟨_, _, none⟩) hb]; exact f3, by rw [h.cell (p := ⟨_, _, none⟩) hc]; exact f4, by rw [h.cell (p := ⟨_, _, none⟩) hc]; exact f5, by rw [h.cell (p := ⟨_, _, none⟩) hc]; exact f6, by rw [h.cell (p := ⟨_, _, none⟩) hc]; exact f7⟩
set_option maxHeartbeats 2000000 in
set_option maxRecDepth 100000 in
theorem rahead_no (msg other : D4) (p q : Option Addr) (n m sc tc : Nat) (w : World) (hn : n ≠ 35 ∨ m ≠ 35) :
    Calls Tryd.prog 25 #[.agg #[.int .u32 msg.d0, .int .u32 msg.d1, .int .u32 msg.d2, .int .u32 msg.d3], .slice p n sc, .agg #[.int .u32 other.d0, .int .u32 other.d1, .int .u32 other.d2, .int .u32 other.d3], .slice q m tc] w fun e w' => e = .returned (.tuple #[.int .i64 0, zeroD.val, .bool false]) ∧ Below w.heap.size w w' := by
  obtain ⟨w0, hw0⟩ : ∃ w0, ((w.alloc (.cells #[.int .u32 msg.d0, .int .u32 msg.d1, .int .u32 msg.d2, .int .u32 msg.d3] 24)).alloc (.cells #[.int .u32 other.d0, .int .u32 other.d1, .int .u32 other.d2, .int .u32 other.d3] 24)).alloc (.cells #[.int .u32 0, .int .u32 0, .int .u32 0, .int .u32 0] 24) = w0 := ⟨_, rfl⟩
  obtain ⟨_, _, hR0, hB0⟩ := cstart443 msg other w w0 hw0
  obtain ⟨b0, b1, b2, b3⟩ := Arr.c4 (d := zeroD) hR0
  obtain ⟨f0, f1, f2, f3⟩ := hR0.f4
  have hRf := put4 (d := zeroD) hR0 rfl
  have hBf := below_put4 hB0 (show w.heap.size ≤ w.heap.size + 1 + 1 by omega) zeroD
  simp only [zeroD] at b0 b1 b2 b3 hRf hBf
  obtain ⟨g1, hg1⟩ : ∃ g, ((n : Int) != 35) = g := ⟨_, rfl⟩
  obtain ⟨g2, hg2⟩ : ∃ g, ((m : Int) != 35) = g := ⟨_, rfl⟩
  have hall : g1 = true ∨ g2 = true := by
    subst hg1; subst hg2
    simp
    omega
  have hg1' : ((n : Int) == 35) = !g1 := by rw [← hg1, bne, Bool.not_not]
  have hg2' : ((m : Int) == 35) = !g2 := by rw [← hg2, bne, Bool.not_not]
  clear hn
  go_enter Tryd.func25, Tryd.ntmps25
  cases g1 <;> cases g2 <;> simp at hall <;>
  (go_wp2_with fail
   generalize (((w0.setCell ⟨w.heap.size + 1 + 1, 0, none⟩ (.int .u32 0)).setCell ⟨w.heap.size + 1 + 1, 1, none⟩ (.int .u32 0)).setCell ⟨w.heap.size + 1 + 1, 2, none⟩ (.int .u32 0)).setCell ⟨w.heap.size + 1 + 1, 3, none⟩ (.int .u32 0) = wf at *
   obtain ⟨r0, r1, r2, r3⟩ := hRf.c4
   simp only at r0 r1 r2 r3
   refine bodyPost_ret (v := .tuple #[.int .i64 0, zeroD.val, .bool false]) (by simp [results, Tryd.results25, go_sem, D4.val, zeroD, r0, r1, r2, r3]) rfl ⟨rfl, hBf⟩)


set_option maxHeartbeats 8000000 in
set_option maxRecDepth 100000 in
theorem rahead_yes (msg other : D4) (S T : List D4) (bs os scap bt ot tcap : Nat) (w : World) (hmo : msg.ok) (hoo : other.ok) (hSo : allD4 S) (hTo : allD4 T) (hSl : S.length = 35) (hTl : T.length = 35) (hrS : RdL w bs os S) (hrT : RdL w bt ot T) (_hsc : 35 ≤ scap) (_hscm : scap ≤ maxLen) (_htc : 35 ≤ tcap) (_htcm : tcap ≤ maxLen) (O : Option Nat) (hO : seekP (showsB msg other S T) 0 35 = O) :
    Calls Tryd.prog 25 #[.agg #[.int .u32 msg.d0, .int .u32 msg.d1, .int .u32 msg.d2, .int .u32 msg.d3], .slice (some ⟨bs, os, none⟩) 35 scap, .agg #[.int .u32 other.d0, .int .u32 other.d1, .int .u32 other.d2, .int .u32 other.d3], .slice (some ⟨bt, ot, none⟩) 35 tcap] w fun e w' => e = .returned (.tuple #[.int .i64 ((aI O : Nat) : Int), (aD T O).val, .bool (aB O)]) ∧ Below w.heap.size w w' := by
  unfold maxLen at _hscm _htcm
  have hbs := hrS.1
  have hbt := hrT.1
  obtain ⟨Na, hNa⟩ : ∃ N, numL msg = N := ⟨_, rfl⟩
  obtain ⟨Nb, hNb⟩ : ∃ N, numL other = N := ⟨_, rfl⟩
  have hal : Na.length = 35 := by rw [← hNa, numL_len]
  have hbl : Nb.length = 35 := by rw [← hNb, numL_len]
  have HA : Hid (∀ i, num msg i = Na.getD i 0) := fun i => by rw [num, hNa]
  have HB : Hid (∀ i, num other i = Nb.getD i 0) := fun i => by rw [num, hNb]
  have HNa := Lib.hid hNa
  have HNb := Lib.hid hNb
  obtain ⟨pr, hpr⟩ : ∃ p, showsB msg other S T = p := ⟨_, rfl⟩
  rw [hpr] at hO
  have HP : Hid (∀ i, pr i = showsB msg other S T i) := fun i => by rw [hpr]
  obtain ⟨w0, hw0⟩ : ∃ w0, ((w.alloc (.cells #[.int .u32 msg.d0, .int .u32 msg.d1, .int .u32 msg.d2, .int .u32 msg.d3] 24)).alloc (.cells #[.int .u32 other.d0, .int .u32 other.d1, .int .u32 other.d2, .int .u32 other.d3] 24)).alloc (.cells #[.int .u32 0, .int .u32 0, .int .u32 0, .int .u32 0] 24) = w0 := ⟨_, rfl⟩
  obtain ⟨hM0, hO0, hR0, hB0⟩ := cstart443 msg other w w0 hw0
  have hS0 := hrS.on hB0
  have hX0 := hrT.on hB0
  have hs1 := hM0.lt
  have hs2 := hO0.lt
  have hs3 := hR0.lt
  have HSo := Lib.hid hSo
  have HSl := Lib.hid hSl
  have HTo := Lib.hid hTo
  have HTl := Lib.hid hTl
  have HO := Lib.hid hO
  obtain ⟨m0, m1, m2, m3⟩ := Arr.c4 hO0
  clear hNa hNb hrS hrT hSo hSl hTo hTl hpr hO
  go_enter Tryd.func25, Tryd.ntmps25
  go_wp2_with fail
  clear hw0
  have hM4 := Arr.c4 (show Arr .u32 24 w.heap.size msg.toL w0.drew from hM0)
  have hO4 := Arr.c4 (show Arr .u32 24 (w.heap.size + 1) other.toL w0.drew from hO0)
  have HS8 : Hid (w0.drew.cell? ⟨w.heap.size, 0, none⟩ = some (.int .u32 msg.d0) ∧ w0.drew.cell? ⟨w.heap.size, 1, none⟩ = some (.int .u32 msg.d1) ∧ w0.drew.cell? ⟨w.heap.size, 2, none⟩ = some (.int .u32 msg.d2) ∧ w0.drew.cell? ⟨w.heap.size, 3, none⟩ = some (.int .u32 msg.d3) ∧ w0.drew.cell? ⟨w.heap.size + 1, 0, none⟩ = some (.int .u32 other.d0) ∧ w0.drew.cell? ⟨w.heap.size + 1, 1, none⟩ = some (.int .u32 other.d1) ∧ w0.drew.cell? ⟨w.heap.size + 1, 2, none⟩ = some (.int .u32 other.d2) ∧ w0.drew.cell? ⟨w.heap.size + 1, 3, none⟩ = some (.int .u32 other.d3)) := ⟨hM4.1, hM4.2.1, hM4.2.2.1, hM4.2.2.2, hO4.1, hO4.2.1, hO4.2.2.1, hO4.2.2.2⟩
  clear m0 m1 m2 m3 hM4 hO4
  go_region_held3 (fun w' => w'.cell? ⟨w.heap.size, 0, none⟩ = some (.int .u32 msg.d0) ∧ w'.cell? ⟨w.heap.size, 1, none⟩ = some (.int .u32 msg.d1) ∧ w'.cell? ⟨w.heap.size, 2, none⟩ = some (.int .u32 msg.d2) ∧ w'.cell? ⟨w.heap.size, 3, none⟩ = some (.int .u32 msg.d3) ∧ w'.cell? ⟨w.heap.size + 1, 0, none⟩ = some (.int .u32 other.d0) ∧ w'.cell? ⟨w.heap.size + 1, 1, none⟩ = some (.int .u32 other.d1) ∧ w'.cell? ⟨w.heap.size + 1, 2, none⟩ = some (.int .u32 other.d2) ∧ w'.cell? ⟨w.heap.size + 1, 3, none⟩ = some (.int .u32 other.d3))
    (first | exact keep8b hCz hs1 hs2 HS8.out | exact keep8b hDa hs1 hs2 HS8.out | exact keep8b hDb hs1 hs2 HS8.out | exact HS8.out)
    (first
      | (go_at_call 13; (with_reducible refine (rsteps_val msg Na _ hmo HNa.out).mono ?_); rintro e wA ⟨ga, ca, rfl, hga, hca, hcam, hRa, hDa⟩; (first | (have hRb2 := hRb.on hDa; have hCz : Below w0.heap.size w0.drew wA := hDb.trans (hDa.mono hDb.size)) | skip))
      | (go_at_call 13; (with_reducible refine (rsteps_val other Nb _ hoo HNb.out).mono ?_); rintro e wB ⟨gb, cb, rfl, hgb, hcb, hcbm, hRb, hDb⟩; (first | (have hRa2 := hRa.on hDb; have hCz : Below w0.heap.size w0.drew wB := hDa.trans (hDb.mono hDa.size)) | skip)))
  all_goals
    have hC2 := ((Below.refl w0.heap.size w0).drew).trans hCz
    (first | (have hA9 : RdN wB ga Na := hRa2; have hB9 : RdN wB gb Nb := hRb) | (have hA9 : RdN wA ga Na := hRa; have hB9 : RdN wA gb Nb := hRb2))
    unfold maxLen at hcbm hcam
    (first | clear hRa2 hRb hDa hDb hCz HS8 | clear hRb2 hRa hDa hDb hCz HS8)
    go_wp2_with fail
    go_loopw [13] (fun i wr => ∃ k : Nat, k ≤ 35 ∧ i = .int .i64 (k : Int) ∧ RdN wr ga Na ∧ RdN wr gb Nb ∧ Hid (seekP pr k (35 - k) = O) ∧ Below w0.heap.size w0 wr) (fun i _ => 35 - (intOf i).toNat)
    case atStart => exact ⟨0, Nat.zero_le _, rfl, hA9, hB9, HO, hC2⟩
    case round =>
      clear hA9 hB9 hC2
      obtain ⟨k, hk, rfl, hRa, hRb, HK, hC⟩ := hrel
      have hR := hR0.thr hC hs3
      have hB := hB0.trans (hC.mono hB0.size)
      by_cases hlt : k < 35
      · have hkd : decide ((k : Int) < 35) = true := by simp; omega
        have hk0 : (0 : Int) ≤ (k : Int) := by omega
        have hk1 : (k : Int) < 35 := by omega
        have hca0 := hRa.2 k (by omega)
        have hcb0 := hRb.2 k (by omega)
        have ha15 := num_le msg k
        have hb15 := num_le other k
        rw [HA.out k] at ha15
        rw [HB.out k] at hb15
        obtain ⟨na, hna⟩ : ∃ n, Na.getD k 0 = n := ⟨_, rfl⟩
        obtain ⟨nb, hnb⟩ : ∃ n, Nb.getD k 0 = n := ⟨_, rfl⟩
        rw [hna] at hca0 ha15
        rw [hnb] at hcb0 hb15
        have hSk := (hS0.thr hC (by omega) hC.size).2 k (by rw [HSl.out]; exact hlt)
        have hTk := (hX0.thr hC (by omega) hC.size).2 k (by rw [HTl.out]; exact hlt)
        obtain ⟨y, hy⟩ : ∃ y, S.getD k zeroD = y := ⟨_, rfl⟩
        obtain ⟨x, hx⟩ : ∃ x, T.getD k zeroD = x := ⟨_, rfl⟩
        rw [hy] at hSk
        rw [hx] at hTk
        have hxo : x.ok := by rw [← hx]; exact getD_ok HTo.out k
        have HXO := Lib.hid hxo
        have HX := Lib.hid hx
        by_cases hg : nb < na
        · have hdg : decide ((nb : Int) < (na : Int)) = true := by simp; omega
          obtain ⟨z, hz⟩ : ∃ z, walkD x (na - nb) = z := ⟨_, rfl⟩
          obtain ⟨s, hs⟩ : ∃ s, sameD z y = s := ⟨_, rfl⟩
          have HPK : Hid (pr k = s) := by
            show _ = _
            rw [HP.out k, showsB, HA.out k, HB.out k, hna, hnb, hy, hx, hz, hs, decide_eq_true hg]; rfl
          have hE := eqD_run z y
          rw [hs] at hE
          have HZ := Lib.hid hz
          have hwr : IntKind.i64.wrap ((na : Int) - (nb : Int)) = ((na - nb : Nat) : Int) := by rw [IntWalk.i64_in _ (by omega)]; omega
          clear hz hs hy hx hna hnb hxo
          have HS0 : Hid (wr.drew.cell? ⟨ga, k, none⟩ = some (.int .i64 (na : Int)) ∧ wr.drew.cell? ⟨gb, k, none⟩ = some (.int .i64 (nb : Int)) ∧ wr.drew.cell? ⟨bt, ot + k * 4, none⟩ = some (.int .u32 x.d0) ∧ wr.drew.cell? ⟨bt, ot + k * 4 + 1, none⟩ = some (.int .u32 x.d1) ∧ wr.drew.cell? ⟨bt, ot + k * 4 + 2, none⟩ = some (.int .u32 x.d2) ∧ wr.drew.cell? ⟨bt, ot + k * 4 + 3, none⟩ = some (.int .u32 x.d3) ∧ wr.drew.cell? ⟨bs, os + k * 4, none⟩ = some (.int .u32 y.d0) ∧ wr.drew.cell? ⟨bs, os + k * 4 + 1, none⟩ = some (.int .u32 y.d1) ∧ wr.drew.cell? ⟨bs, os + k * 4 + 2, none⟩ = some (.int .u32 y.d2) ∧ wr.drew.cell? ⟨bs, os + k * 4 + 3, none⟩ = some (.int .u32 y.d3)) := ⟨hca0, hcb0, hTk.1, hTk.2.1, hTk.2.2.1, hTk.2.2.2, hSk.1, hSk.2.1, hSk.2.2.1, hSk.2.2.2⟩
          go_wp2_with fail
          go_region_held3 (fun w' => w'.cell? ⟨ga, k, none⟩ = some (.int .i64 (na : Int)) ∧ w'.cell? ⟨gb, k, none⟩ = some (.int .i64 (nb : Int)) ∧ w'.cell? ⟨bt, ot + k * 4, none⟩ = some (.int .u32 x.d0) ∧ w'.cell? ⟨bt, ot + k * 4 + 1, none⟩ = some (.int .u32 x.d1) ∧ w'.cell? ⟨bt, ot + k * 4 + 2, none⟩ = some (.int .u32 x.d2) ∧ w'.cell? ⟨bt, ot + k * 4 + 3, none⟩ = some (.int .u32 x.d3) ∧ w'.cell? ⟨bs, os + k * 4, none⟩ = some (.int .u32 y.d0) ∧ w'.cell? ⟨bs, os + k * 4 + 1, none⟩ = some (.int .u32 y.d1) ∧ w'.cell? ⟨bs, os + k * 4 + 2, none⟩ = some (.int .u32 y.d2) ∧ w'.cell? ⟨bs, os + k * 4 + 3, none⟩ = some (.int .u32 y.d3))
            (first | (exact keep10 hF1 HS0.out) | (with_reducible exact HS0.out))
            (first
              | (go_at_call 24; (with_reducible refine (rwalk_any (na - nb) _ x z _ HXO.out (by omega) (by omega) HZ.out).mono ?_); rintro e w4 ⟨rfl, hF1⟩))
          have hF2 : Below wr.heap.size wr w4 := ((Below.refl _ wr).drew).trans hF1
          have hR4 : Arr .u32 24 (w.heap.size + 1 + 1) [0, 0, 0, 0] w4 := hR.on hF2
          have hB4 : Below w.heap.size w w4 := hB.trans (hF2.mono hB.size)
          have hC4 : Below w0.heap.size w0 w4 := hC.trans (hF2.mono hC.size)
          have hRa4 : RdN w4 ga Na := hRa.on hF2
          have hRb4 : RdN w4 gb Nb := hRb.on hF2
          obtain ⟨x0, x1, x2, x3⟩ := (keep10 hF1 HS0.out).2.2
          obtain ⟨x3, _⟩ := x3
          clear hR hB hC hRa hRb hSk hTk hE hwr hca0 hcb0 hF1 hF2
          cases s
          · go_wp2_with fail
            go_roundw
            case rel => exact ⟨k + 1, by omega, by go_num, hRa4, hRb4, by show _ = _; rw [← seekP_no pr k (35 - (k + 1)) HPK.out, show 35 - (k + 1) + 1 = 35 - k by omega]; exact HK.out, hC4⟩
            case measure => simp [intOf]; omega
          · obtain ⟨b0, b1, b2, b3⟩ := Arr.c4 (d := zeroD) hR4
            obtain ⟨f0, f1, f2, f3⟩ := hR4.f4
            have hRf := put4 (d := x) hR4 rfl
            have hBf := below_put4 hB4 (show w.heap.size ≤ w.heap.size + 1 + 1 by omega) x
            have HEO : Hid (O = some k) := by
              show _ = _
              rw [← HK.out, show 35 - k = (34 - k) + 1 by omega, seekP_yes pr k _ HPK.out]
            go_wp2_with fail
            go_region
            all_goals
              go_wp2_with fail
              generalize (((w4.setCell ⟨w.heap.size + 1 + 1, 0, none⟩ (.int .u32 x.d0)).setCell ⟨w.heap.size + 1 + 1, 1, none⟩ (.int .u32 x.d1)).setCell ⟨w.heap.size + 1 + 1, 2, none⟩ (.int .u32 x.d2)).setCell ⟨w.heap.size + 1 + 1, 3, none⟩ (.int .u32 x.d3) = wf at *
              obtain ⟨r0, r1, r2, r3⟩ := Arr.c4 (show Arr .u32 24 (w.heap.size + 1 + 1) x.toL wf.drew from hRf)
              refine bodyPost_ret (v := .tuple #[.int .i64 (k : Int), x.val, .bool true]) (by simp [results, Tryd.results25, go_sem, D4.val, r0, r1, r2, r3]) rfl ⟨by rw [HEO.out]; show _ = Ending.returned (.tuple #[.int .i64 (k : Int), (T.getD k zeroD).val, .bool true]); rw [HX.out], hBf.drew⟩
        · have hdg : decide ((nb : Int) < (na : Int)) = false := by simp; omega
          have HPK : Hid (pr k = false) := by
            show _ = _
            rw [HP.out k, showsB, HA.out k, HB.out k, hna, hnb, decide_eq_false hg]; rfl
          clear hy hx hna hnb hxo
          go_wp2_with fail
          go_region
          all_goals
            go_wp2_with fail
            go_roundw
            case rel => exact ⟨k + 1, by omega, by go_num, hRa, hRb, by show _ = _; rw [← seekP_no pr k (35 - (k + 1)) HPK.out, show 35 - (k + 1) + 1 = 35 - k by omega]; exact HK.out, hC.drew⟩
            case measure => simp [intOf]; omega
      · have hk35 : k = 35 := by omega
        subst hk35
        have HEO : Hid (O = none) := by show _ = _; rw [← HK.out]; rfl
        obtain ⟨b0, b1, b2, b3⟩ := Arr.c4 (d := zeroD) hR
        obtain ⟨f0, f1, f2, f3⟩ := hR.f4
        have hRf := put4 (d := zeroD) hR rfl
        have hBf := below_put4 hB (show w.heap.size ≤ w.heap.size + 1 + 1 by omega) zeroD
        simp only [zeroD] at b0 b1 b2 b3 hRf hBf
        go_wp2_with fail
        generalize (((wr.setCell ⟨w.heap.size + 1 + 1, 0, none⟩ (.int .u32 0)).setCell ⟨w.heap.size + 1 + 1, 1, none⟩ (.int .u32 0)).setCell ⟨w.heap.size + 1 + 1, 2, none⟩ (.int .u32 0)).setCell ⟨w.heap.size + 1 + 1, 3, none⟩ (.int .u32 0) = wf at *
        obtain ⟨r0, r1, r2, r3⟩ := hRf.c4
        simp only at r0 r1 r2 r3
        refine bodyPost_ret (v := .tuple #[.int .i64 0, zeroD.val, .bool false]) (by simp [results, Tryd.results25, go_sem, D4.val, zeroD, r0, r1, r2, r3]) rfl ⟨by rw [HEO.out]; rfl, hBf⟩

theorem rahead_any (msg other : D4) (S T : List D4) (p q : Option Addr) (n m sc tc : Nat) (w : World) (hmo : msg.ok) (hoo : other.ok) (hSo : allD4 S) (hTo : allD4 T) (hn : n = S.length) (hm : m = T.length) (hrS : RdS w p S) (hrT : RdS w q T) (hsc : S.length ≤ sc) (hscm : sc ≤ maxLen) (htc : T.length ≤ tc) (htcm : tc ≤ maxLen) (O : Option Nat) (hO : aheadO msg other S T = O) (i : Int) (hi : ((aI O : Nat) : Int) = i) (x : D4) (hx : aD T O = x) (g : Bool) (hg : aB O = g) :
    Calls Tryd.prog 25 #[.agg #[.int .u32 msg.d0, .int .u32 msg.d1, .int .u32 msg.d2, .int .u32 msg.d3], .slice p n sc, .agg #[.int .u32 other.d0, .int .u32 other.d1, .int .u32 other.d2, .int .u32 other.d3], .slice q m tc] w fun e w' => e = .returned (.tuple #[.int .i64 i, .agg #[.int .u32 x.d0, .int .u32 x.d1, .int .u32 x.d2, .int .u32 x.d3], .bool g]) ∧ Below w.heap.size w w' := by
  subst hi; subst hx; subst hg; subst hn; subst hm
  by_cases h : S.length = 35 ∧ T.length = 35
  · rw [aheadO, if_pos h] at hO
    obtain ⟨h1, h2⟩ := h
    obtain ⟨bs, os, rfl, hrS1⟩ := hrS (by intro e; subst e; simp at h1)
    obtain ⟨bt, ot, rfl, hrT1⟩ := hrT (by intro e; subst e; simp at h2)
    rw [h1] at hsc ⊢
    rw [h2] at htc ⊢
    exact rahead_yes msg other S T bs os sc bt ot tc w hmo hoo hSo hTo h1 h2 hrS1 hrT1 hsc hscm htc htcm O hO
  · rw [aheadO, if_neg h] at hO
    subst hO
    exact rahead_no msg other p q S.length T.length sc tc w (by omega)
end Go.Proofs.YtkgkmpelclmllaaDoor
