/-
  The document's Reach and Check.
-/
import Derived.Test.YtkgkmpelclmllaaDoorOtN
import Derived.Test.YtkgkmpelclmllaaDoorOtH
namespace Go.Proofs.YtkgkmpelclmllaaDoor
open Go.RowKit

set_option maxHeartbeats 4000000 in
set_option maxRecDepth 100000 in
theorem rreach_yes (msg v : D4) (S : List D4) (bs o scap : Nat) (w : World) (hmo : msg.ok) (hSo : allD4 S) (hSl : S.length = 35) (hr : RdL w bs o S) (_hsc : 35 ≤ scap) (_hscm : scap ≤ maxLen) (hv : reachD msg S = v) :
    Calls Tryd.prog 21 #[.agg #[.int .u32 msg.d0, .int .u32 msg.d1, .int .u32 msg.d2, .int .u32 msg.d3], .slice (some ⟨bs, o, none⟩) 35 scap] w fun e w' => e = .returned (.tuple #[v.val, .bool true]) ∧ Below w.heap.size w w' := by
  obtain ⟨i0, hinf, hz0, hz1, hz2⟩ := info_parts info_dg
  have hbl := hr.1
  unfold maxLen at _hscm
  obtain ⟨N, hN⟩ : ∃ N, numL msg = N := ⟨_, rfl⟩
  have hNl : N.length = 35 := by rw [← hN, numL_len]
  have HNl : Hid (∀ i, num msg i = N.getD i 0) := fun i => by rw [num, hN]
  have HNe := Lib.hid hN
  obtain ⟨f, hf⟩ : ∃ f, (fun i => walkD (S.getD i zeroD) (15 - num msg i)) = f := ⟨_, rfl⟩
  have HV : Hid (endsD (mapR f 35) = v) := by show _ = _; rw [← hv, reachD, hf]
  have HF : Hid (∀ i, f i = walkD (S.getD i zeroD) (15 - num msg i)) := fun i => by rw [← hf]
  obtain ⟨w0, hw0⟩ : ∃ w0, (w.alloc (.cells #[.int .u32 msg.d0, .int .u32 msg.d1, .int .u32 msg.d2, .int .u32 msg.d3] 24)).alloc (.cells #[.int .u32 0, .int .u32 0, .int .u32 0, .int .u32 0] 24) = w0 := ⟨_, rfl⟩
  obtain ⟨hM0, hR0, hB0⟩ := start46 msg w w0 hw0
  have hr0 := hr.on hB0
  have hs2 := hR0.lt
  obtain ⟨m0, m1, m2, m3⟩ := Arr.c4 hM0
  have HSo := Lib.hid hSo
  have HSl := Lib.hid hSl
  clear hv hf hN hr hSo hSl
  go_enter Tryd.func21, Tryd.ntmps21
  go_wp2_with fail
  clear hw0
  refine (rsteps_val msg N w0 hmo HNe.out).mono ?_
  rintro e w1 ⟨g, cap, rfl, hgl, hcap, hcm, hRN1, hD⟩
  have hr1 := hr0.on hD
  have hR1 := hR0.on hD
  have hB1 := hB0.trans (hD.mono hB0.size)
  have hs01 := hD.size
  have hg1 := hRN1.1
  unfold maxLen at hcm
  clear m0 m1 m2 m3 hD hM0 hR0 hB0 hr0
  go_wp2_with fail
  go_loopw [7, 8] (fun v i wr => ∃ k : Nat, k ≤ 35 ∧ i = .int .i64 (k : Int) ∧ OwnsD w1.heap.size v (mapR f k) wr ∧ Below w1.heap.size w1 wr) (fun _ i _ => 35 - (intOf i).toNat)
  case atStart => exact ⟨0, Nat.zero_le _, rfl, OwnsD.nil _ _, Below.refl _ _⟩
  case round =>
    obtain ⟨k, hk, rfl, hO, hC⟩ := hrel
    by_cases hlt : k < 35
    · have hkd : decide ((k : Int) < 35) = true := by simp; omega
      have hk0 : (0 : Int) ≤ (k : Int) := by omega
      have hk1 : (k : Int) < 35 := by omega
      have hn15 := num_le msg k
      rw [HNl.out k] at hn15
      have hcN := (hRN1.thr hC hg1 hC.size).2 k (by omega)
      obtain ⟨l0, l1, l2, l3⟩ := (hr1.thr hC hr1.1 hC.size).2 k (by rw [HSl.out]; exact hlt)
      obtain ⟨n, hn⟩ : ∃ n, N.getD k 0 = n := ⟨_, rfl⟩
      rw [hn] at hcN hn15
      obtain ⟨z, hz⟩ : ∃ z, S.getD k zeroD = z := ⟨_, rfl⟩
      have hzo : z.ok := by rw [← hz]; exact getD_ok HSo.out k
      obtain ⟨y, hy⟩ : ∃ y, walkD z (15 - n) = y := ⟨_, rfl⟩
      have HY : Hid (f k = y) := by show _ = _; rw [HF.out k, HNl.out k, hn, hz, hy]
      rw [hz] at l0 l1 l2 l3
      have HY0 := Lib.hid hy
      have HZO := Lib.hid hzo
      have hml := mapR_len f k
      have hwrap : IntKind.i64.wrap (15 - (n : Int)) = 15 - (n : Int) := IntWalk.i64_in _ (by omega)
      clear hz hy hzo hn
      have HS0 : Hid (wr.drew.cell? ⟨g, k, none⟩ = some (.int .i64 (n : Int)) ∧ wr.drew.cell? ⟨bs, o + k * 4, none⟩ = some (.int .u32 z.d0) ∧ wr.drew.cell? ⟨bs, o + k * 4 + 1, none⟩ = some (.int .u32 z.d1) ∧ wr.drew.cell? ⟨bs, o + k * 4 + 2, none⟩ = some (.int .u32 z.d2) ∧ wr.drew.cell? ⟨bs, o + k * 4 + 3, none⟩ = some (.int .u32 z.d3)) := ⟨hcN, l0, l1, l2, l3⟩
      have hb1 : g < w1.heap.size := hg1
      have hb2 : bs < w1.heap.size := hr1.1
      have hOd : OwnsD w1.heap.size u7 (mapR f k) wr.drew := hO
      have hbw : w1.heap.size ≤ wr.drew.heap.size := hC.size
      go_wp2_with fail
      go_region_held3 (fun w' => w'.cell? ⟨g, k, none⟩ = some (.int .i64 (n : Int)) ∧ w'.cell? ⟨bs, o + k * 4, none⟩ = some (.int .u32 z.d0) ∧ w'.cell? ⟨bs, o + k * 4 + 1, none⟩ = some (.int .u32 z.d1) ∧ w'.cell? ⟨bs, o + k * 4 + 2, none⟩ = some (.int .u32 z.d2) ∧ w'.cell? ⟨bs, o + k * 4 + 3, none⟩ = some (.int .u32 z.d3))
        (first
          | exact keep5 hC5 hb1 hb2 HS0.out
          | exact keep5 (hC4.alloc hb4 _) hb1 hb2 HS0.out
          | exact keep5 hC4 hb1 hb2 HS0.out
          | exact HS0.out)
        (first
          | (go_at_call 24; (with_reducible refine (rwalk_any (15 - n) _ z y _ HZO.out (by omega) (by omega) HY0.out).mono ?_); rintro e w4 ⟨rfl, hD4⟩; have hC4 : Below w1.heap.size wr.drew w4 := hD4.mono hbw; have hO4 : w4.ownsRow w1.heap.size 24 4 u7 (mapR f k).length (dCells (mapR f k)) := hOd.on hD4; have hb4 := Nat.le_trans hbw hD4.size)
          | (refine step_append_lies _ (by rfl) _ _ _ (by rfl) w1.heap.size 24 i0 _ 4 16 Tryd.underlying32 hinf hz0 hz1 hz2 rfl (by omega) u7 (mapR f k).length (dCells (mapR f k)) (by rfl) (hO4.alloc _) ⟨w4.heap.size, 0, none⟩ 1 1 [.int .u32 y.d0, .int .u32 y.d1, .int .u32 y.d2, .int .u32 y.d3] (by rfl) (by rfl) (World.news_of_block (cs := #[.int .u32 y.d0, .int .u32 y.d1, .int .u32 y.d2, .int .u32 y.d3]) (t := 24) (fr := (0, 0)) (heap_alloc_new w4 _)) (by simp [Value.oneCell']) (by omega) (by unfold maxLen; omega) (by omega) (by simp; omega) (w4.heap.size + 1) (by simp) ?_; intro gg gcap w5 hown5 hgrow hat hlt5; have hC5 : Below w1.heap.size wr.drew w5 := (hC4.alloc hb4 _).grown hgrow (by simp; omega) (fun k hk => (World.ownsRow.lt hO4 k hk).1)))
      all_goals
        have hO5 := OwnsD.snoc (d := y) hown5
        rw [← HY.out, ← mapR_succ, hml] at hO5
        have hCf := hC.drew.trans hC5
        clear hown5 hgrow hat hO4 hC4 hD4 hOd hO hC hwrap
        go_wp2_with fail
        go_roundw
        case rel => exact ⟨k + 1, by omega, by go_num, hO5, hCf⟩
        case measure => simp [intOf]; omega
    · have hk35 : k = 35 := by omega
      subst hk35
      obtain ⟨p, c, rfl, hc, hm, hrd⟩ := hO.form
      have hml := mapR_len f 35
      rw [hml] at hc ⊢
      have hR := hR1.thr hC (by omega)
      have hB := hB1.trans (hC.mono hB1.size)
      have hok : allD4 (mapR f 35) := mapR_ok fun i _ => by rw [HF.out i]; exact walkD_ok (getD_ok HSo.out i) _
      have HOK := Lib.hid hok
      have HML := Lib.hid hml
      clear hO hC hok hml hR1 hB1
      go_wp2_with fail
      refine (rof_list (mapR f 35) v p 35 c wr HOK.out HML.out (by omega) hrd hc hm HV.out).mono ?_
      rintro e w2 ⟨rfl, hE⟩
      have hR2 := hR.on hE
      have hB2 := hB.trans (hE.mono hB.size)
      obtain ⟨b0, b1, b2, b3⟩ := Arr.c4 (d := zeroD) hR2
      obtain ⟨f0, f1, f2, f3⟩ := hR2.f4
      have hRf := put4 (d := v) hR2 rfl
      have hBf := below_put4 hB2 (show w.heap.size ≤ w.heap.size + 1 by omega) v
      clear hR hB hR2 hB2 hE hrd
      go_wp2_with fail
      generalize (((w2.setCell ⟨w.heap.size + 1, 0, none⟩ (.int .u32 v.d0)).setCell ⟨w.heap.size + 1, 1, none⟩ (.int .u32 v.d1)).setCell ⟨w.heap.size + 1, 2, none⟩ (.int .u32 v.d2)).setCell ⟨w.heap.size + 1, 3, none⟩ (.int .u32 v.d3) = wf at *
      obtain ⟨r0, r1, r2, r3⟩ := hRf.c4
      refine bodyPost_ret (v := .tuple #[v.val, .bool true]) (by simp [results, Tryd.results21, go_sem, D4.val, r0, r1, r2, r3]) rfl ⟨rfl, hBf⟩
set_option maxHeartbeats 2000000 in
set_option maxRecDepth 100000 in
theorem rreach_no (msg : D4) (p : Option Addr) (n scap : Nat) (w : World) (hn : n ≠ 35) :
    Calls Tryd.prog 21 #[.agg #[.int .u32 msg.d0, .int .u32 msg.d1, .int .u32 msg.d2, .int .u32 msg.d3], .slice p n scap] w fun e w' => e = .returned (.tuple #[zeroD.val, .bool false]) ∧ Below w.heap.size w w' := by
  have hne : ((n : Int) != 35) = true := by simp; omega
  have hne2 : ((n : Int) == 35) = false := by simp; omega
  obtain ⟨w0, hw0⟩ : ∃ w0, (w.alloc (.cells #[.int .u32 msg.d0, .int .u32 msg.d1, .int .u32 msg.d2, .int .u32 msg.d3] 24)).alloc (.cells #[.int .u32 0, .int .u32 0, .int .u32 0, .int .u32 0] 24) = w0 := ⟨_, rfl⟩
  obtain ⟨hM0, hR0, hB0⟩ := start46 msg w w0 hw0
  obtain ⟨b0, b1, b2, b3⟩ := Arr.c4 (d := zeroD) hR0
  obtain ⟨f0, f1, f2, f3⟩ := hR0.f4
  have hRf := put4 (d := zeroD) hR0 rfl
  have hBf := below_put4 hB0 (show w.heap.size ≤ w.heap.size + 1 by omega) zeroD
  simp only [zeroD] at b0 b1 b2 b3 hRf hBf
  go_enter Tryd.func21, Tryd.ntmps21
  go_wp2_with fail
  generalize (((w0.setCell ⟨w.heap.size + 1, 0, none⟩ (.int .u32 0)).setCell ⟨w.heap.size + 1, 1, none⟩ (.int .u32 0)).setCell ⟨w.heap.size + 1, 2, none⟩ (.int .u32 0)).setCell ⟨w.heap.size + 1, 3, none⟩ (.int .u32 0) = wf at *
  obtain ⟨r0, r1, r2, r3⟩ := hRf.c4
  simp only at r0 r1 r2 r3
  refine bodyPost_ret (v := .tuple #[zeroD.val, .bool false]) (by simp [results, Tryd.results21, go_sem, D4.val, zeroD, r0, r1, r2, r3]) rfl ⟨rfl, hBf⟩
theorem rreach_any (msg v : D4) (S : List D4) (g : Bool) (p : Option Addr) (n scap : Nat) (w : World) (hmo : msg.ok) (hSo : allD4 S) (hn : n = S.length) (hr : RdS w p S) (hsc : S.length ≤ scap) (hscm : scap ≤ maxLen) (hv : reachV msg S = v) (hg : is35 S = g) :
    Calls Tryd.prog 21 #[.agg #[.int .u32 msg.d0, .int .u32 msg.d1, .int .u32 msg.d2, .int .u32 msg.d3], .slice p n scap] w fun e w' => e = .returned (.tuple #[.agg #[.int .u32 v.d0, .int .u32 v.d1, .int .u32 v.d2, .int .u32 v.d3], .bool g]) ∧ Below w.heap.size w w' := by
  subst hn; subst hg
  by_cases h : S.length = 35
  · rw [reachV, if_pos h] at hv
    obtain ⟨b, o, rfl, hrd⟩ := hr (by intro e; subst e; simp at h)
    rw [is35, decide_eq_true h, h]
    exact rreach_yes msg v S b o scap w hmo hSo h hrd (by omega) hscm hv
  · rw [reachV, if_neg h] at hv
    subst hv
    rw [is35, decide_eq_false h]
    exact rreach_no msg p S.length scap w h
set_option maxHeartbeats 2000000 in
set_option maxRecDepth 100000 in
theorem rcheck_any (pub msg : D4) (S : List D4) (q : Bool) (p : Option Addr) (n scap : Nat) (w : World) (hmo : msg.ok) (hSo : allD4 S) (hn : n = S.length) (hr : RdS w p S) (hsc : S.length ≤ scap) (hscm : scap ≤ maxLen) (hq : checkV pub msg S = q) :
    Calls Tryd.prog 22 #[.agg #[.int .u32 pub.d0, .int .u32 pub.d1, .int .u32 pub.d2, .int .u32 pub.d3], .agg #[.int .u32 msg.d0, .int .u32 msg.d1, .int .u32 msg.d2, .int .u32 msg.d3], .slice p n scap] w fun e w' => e = .returned (.bool q) ∧ Below w.heap.size w w' := by
  obtain ⟨v, hv⟩ : ∃ v, reachV msg S = v := ⟨_, rfl⟩
  obtain ⟨g, hg⟩ : ∃ g, is35 S = g := ⟨_, rfl⟩
  rw [checkV, hv, hg] at hq
  obtain ⟨s, hs⟩ : ∃ s, sameD v pub = s := ⟨_, rfl⟩
  rw [hs] at hq
  have hE := eqD_run v pub
  rw [hs] at hE
  have HQ := Lib.hid hq
  have HV := Lib.hid hv
  have HG := Lib.hid hg
  have HN := Lib.hid hn
  have HSo := Lib.hid hSo
  obtain ⟨w0, hw0⟩ : ∃ w0, (w.alloc (.cells #[.int .u32 pub.d0, .int .u32 pub.d1, .int .u32 pub.d2, .int .u32 pub.d3] 24)).alloc (.cells #[.int .u32 msg.d0, .int .u32 msg.d1, .int .u32 msg.d2, .int .u32 msg.d3] 24) = w0 := ⟨_, rfl⟩
  obtain ⟨hP0, hM0, hB0⟩ := start47 pub msg w w0 hw0
  have hr0 : RdS w0 p S := fun h => by obtain ⟨b, o, e, h1⟩ := hr h; exact ⟨b, o, e, h1.on hB0⟩
  obtain ⟨m0, m1, m2, m3⟩ := Arr.c4 hM0
  clear hr hq hv hg hs hn hSo
  go_enter Tryd.func22, Tryd.ntmps22
  go_wp2_with fail
  clear hw0
  refine (rreach_any msg v S g p n scap w0 hmo HSo.out HN.out hr0 hsc hscm HV.out HG.out).mono ?_
  rintro e w1 ⟨rfl, hD⟩
  have hP1 := hP0.on hD
  have hB1 := hB0.trans (hD.mono hB0.size)
  clear hP0 hM0 hB0 hr0 m0 m1 m2 m3 hD
  obtain ⟨w2, hw2⟩ : ∃ w2, w1.alloc (.cells #[.int .u32 v.d0, .int .u32 v.d1, .int .u32 v.d2, .int .u32 v.d3] 24) = w2 := ⟨_, rfl⟩
  have hX2 : Arr .u32 24 w1.heap.size v.toL w2 := by rw [← hw2]; exact heap_alloc_new w1 _
  have hD2 : Below w1.heap.size w1 w2 := by rw [← hw2]; exact (Below.refl _ _).alloc (Nat.le_refl _) _
  have hP2 := hP1.on hD2
  have hB2 := hB1.trans (hD2.mono hB1.size)
  obtain ⟨l0, l1, l2, l3⟩ := Arr.c4 hP2
  obtain ⟨m0, m1, m2, m3⟩ := Arr.c4 hX2
  clear hP1 hB1 hD2
  cases g
  · go_wp2_with fail
    go_ret
    exact ⟨by rw [← HQ.out]; rfl, hB2⟩
  · go_wp2_with fail
    go_ret
    exact ⟨by rw [← HQ.out]; rfl, hB2⟩
end Go.Proofs.YtkgkmpelclmllaaDoor
