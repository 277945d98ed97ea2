/-
  The code's Reach and Check.
-/
import Derived.Test.YtkgkmpelclmllaaDoorOtF
namespace Go.Proofs.YtkgkmpelclmllaaDoor
open Go.RowKit

set_option maxHeartbeats 2000000 in
set_option maxRecDepth 100000 in
theorem creach_yes (msg v : D4) (S : List D4) (bs o scap : Nat) (w : World) (hmo : msg.ok) (hSo : allD4 S) (hSl : S.length = 35) (hr : RdL w bs o S) (_hsc : 35 ≤ scap) (_hscm : scap ≤ maxLen) (hT : TurnsOk w) (hv : reachD msg S = v) :
    Calls Tryd.prog 19 #[.agg #[.int .u32 msg.d0, .int .u32 msg.d1, .int .u32 msg.d2, .int .u32 msg.d3], .slice (some ⟨bs, o, none⟩) 35 scap] w fun e w' => e = .returned (.tuple #[v.val, .bool true]) ∧ Below w.heap.size w w' := by
  obtain ⟨i0, hinf, hz0, hz1, hz2⟩ := info_parts info_dg
  have hbl := hr.1
  unfold maxLen at _hscm
  obtain ⟨N, hN⟩ : ∃ N, numL msg = N := ⟨_, rfl⟩
  have hNl : N.length = 35 := by rw [← hN, numL_len]
  have HNl : Hid (∀ i, num msg i = N.getD i 0) := fun i => by rw [num, hN]
  have HNe := Lib.hid hN
  obtain ⟨f, hf⟩ : ∃ f, (fun i => walkD (S.getD i zeroD) (15 - num msg i)) = f := ⟨_, rfl⟩
  have HV : Hid (endsD (mapR f 35) = v) := by show _ = _; rw [← hv, reachD, hf]
  have HF : Hid (∀ i, f i = walkD (S.getD i zeroD) (15 - num msg i)) := fun i => by rw [← hf]
  obtain ⟨w0, hw0⟩ : ∃ w0, (w.alloc (.cells #[.int .u32 msg.d0, .int .u32 msg.d1, .int .u32 msg.d2, .int .u32 msg.d3] 24)).alloc (.cells #[.int .u32 0, .int .u32 0, .int .u32 0, .int .u32 0] 24) = w0 := ⟨_, rfl⟩
  obtain ⟨hM0, hR0, hB0⟩ := start46 msg w w0 hw0
  have hT0 := hT.below hB0
  have hr0 := hr.on hB0
  have hs1 := hM0.lt
  have hs2 := hR0.lt
  have hgT : 0 < w0.heap.size := tab_low hT0 gTrn
  have HSo := Lib.hid hSo
  have HSl := Lib.hid hSl
  clear hv hf hT hN hr hSo hSl
  go_enter Tryd.func19, Tryd.ntmps19
  go_wp2_with (at_make; refine wpList_make_full _ rfl _ _ 32 rfl w0.heap.size 24 i0 (.agg #[.int .u32 0, .int .u32 0, .int .u32 0, .int .u32 0]) 4 Tryd.underlying32 hinf hz0 hz1 .i64 .i64 _ _ 35 rfl rfl rfl rfl (by rw [hz2]; omega) (by unfold maxLen; omega) (Nat.le_refl _) ?_; intro w1 hown1 hg1; have hC1 : Below w0.heap.size w0 w1 := (Below.refl _ _).grown hg1 (Nat.le_refl _) (fun k hk => by cases hk); obtain ⟨m0, m1, m2, m3⟩ := Arr.c4 (hM0.on hC1))
  rw [made35 f] at hown1
  have hO1 : OwnsD w0.heap.size (.slice (some ⟨w0.heap.size, 0, none⟩) 35 35) (fillR f 35 0) w1 := by unfold OwnsD; rw [fillR_len]; exact hown1
  have hgl1 := (World.ownsRow.lt hown1 w0.heap.size rfl).2
  clear hown1 hg1 hw0
  refine (csteps_val msg N w1 hmo HNe.out).mono ?_
  rintro e w2 ⟨g, cap, rfl, hgl, hcap, hcm, hRN, hD⟩
  have hO2 := hO1.on hD
  have hC2 := hC1.trans (hD.mono hC1.size)
  clear hO1 hC1 hD m0 m1 m2 m3
  go_wp2_with fail
  go_loopw [17] (fun i wr => ∃ k : Nat, k ≤ 35 ∧ i = .int .i64 (k : Int) ∧ OwnsD w0.heap.size (.slice (some ⟨w0.heap.size, 0, none⟩) 35 35) (fillR f 35 k) wr ∧ RdN wr g N ∧ Below w0.heap.size w0 wr) (fun i _ => 35 - (intOf i).toNat)
  case atStart => exact ⟨0, Nat.zero_le _, rfl, hO2, hRN, hC2⟩
  case round =>
    clear hO2 hC2 hRN
    obtain ⟨k, hk, rfl, hO, hRN, hC⟩ := hrel
    have hTr := turns_far hT0 hgT hC
    by_cases hlt : k < 35
    · have hkd : decide ((k : Int) < 35) = true := by simp; omega
      have hk0 : (0 : Int) ≤ (k : Int) := by omega
      have hk1 : (k : Int) < 35 := by omega
      have hcN := hRN.2 k (by omega)
      have hn15 := num_le msg k
      rw [HNl.out k] at hn15
      obtain ⟨n, hn⟩ : ∃ n, N.getD k 0 = n := ⟨_, rfl⟩
      rw [hn] at hcN hn15
      have hrk := hr0.thr hC (by omega) (Nat.le_trans (Nat.le_refl _) hC.size)
      obtain ⟨l0, l1, l2, l3⟩ := hrk.2 k (by rw [HSl.out]; exact hlt)
      obtain ⟨z, hz⟩ : ∃ z, S.getD k zeroD = z := ⟨_, rfl⟩
      have hzo : z.ok := by rw [← hz]; exact getD_ok HSo.out k
      obtain ⟨y, hy⟩ : ∃ y, walkD z (15 - n) = y := ⟨_, rfl⟩
      have HY : Hid (f k = y) := by show _ = _; rw [HF.out k, HNl.out k, hn, hz, hy]
      rw [hz] at l0 l1 l2 l3
      have HY0 := Lib.hid hy
      have HZO := Lib.hid hzo
      have hwrap : IntKind.i64.wrap (15 - (n : Int)) = 15 - (n : Int) := IntWalk.i64_in _ (by omega)
      clear hz hy hzo hn hrk
      go_wp2_with fail
      refine (calong_any z wr).mono ?_
      rintro e w1 ⟨rfl, hA, hD⟩
      have hT1 := hTr.below hD
      have hgw : 0 < wr.heap.size := tab_low hTr gTrn
      unfold walker
      go_wp2_with fail
      refine (cwalk_val wr.heap.size wr.heap.size (15 - n) _ z y w1 HZO.out hA (Nat.le_refl _) hT1 hgw (by omega) (by omega) HY0.out).mono ?_
      rintro e w2 ⟨rfl, hE⟩
      have hD2 := hD.trans hE
      have hO2 := hO.on hD2
      have hRN2 := hRN.on hD2
      have hC2 := hC.trans (hD2.mono hC.size)
      have hfl := fillR_len f 35 k
      clear hTr hA hD hT1 hE hO hC hD2 l0 l1 l2 l3 hRN hcN hwrap
      obtain ⟨c0, c1, c2, c3⟩ := hO2.at hfl (i := k) (by omega)
      have f0 := hO2.fz hfl (k * 4)
      have f1 := hO2.fz hfl (k * 4 + 1)
      have f2 := hO2.fz hfl (k * 4 + 2)
      have f3 := hO2.fz hfl (k * 4 + 3)
      have hO3 := hO2.put hfl (i := k) (by omega) y
      have hC3 := below_row4 (j := k * 4) hC2 (Nat.le_refl _) y
      have hRN3 := hRN2.far4 (b := w0.heap.size) (j := k * 4) (by omega) y
      rw [← HY.out, fillR_step f 35 k, HY.out] at hO3
      clear hO2 hC2 hRN2
      go_wp2_with fail
      generalize (((w2.setCell ⟨w0.heap.size, k * 4, none⟩ (.int .u32 y.d0)).setCell ⟨w0.heap.size, k * 4 + 1, none⟩ (.int .u32 y.d1)).setCell ⟨w0.heap.size, k * 4 + 2, none⟩ (.int .u32 y.d2)).setCell ⟨w0.heap.size, k * 4 + 3, none⟩ (.int .u32 y.d3) = w3 at *
      go_roundw
      case rel => exact ⟨k + 1, by omega, by go_num, hO3, hRN3, hC3⟩
      case measure => simp [intOf]; omega
    · have hk35 : k = 35 := by omega
      subst hk35
      rw [fillR_full] at hO
      have hR := hR0.thr hC hs2
      have hB := hB0.trans (hC.mono hB0.size)
      have hml := mapR_len f 35
      have hrd := hO.reads hml (by omega)
      have hok : allD4 (mapR f 35) := mapR_ok fun i _ => by rw [HF.out i]; exact walkD_ok (getD_ok HSo.out i) _
      have HOK := Lib.hid hok
      have HML := Lib.hid hml
      clear hO hC hok hml hRN
      go_wp2_with fail
      refine (cpublic_any (mapR f 35) v w0.heap.size 0 35 35 wr HOK.out HML.out (by omega) hrd (by omega) (by unfold maxLen; omega) hTr HV.out).mono ?_
      rintro e w2 ⟨rfl, hE⟩
      have hR2 := hR.on hE
      have hB2 := hB.trans (hE.mono hB.size)
      obtain ⟨b0, b1, b2, b3⟩ := Arr.c4 (d := zeroD) hR2
      obtain ⟨f0, f1, f2, f3⟩ := hR2.f4
      have hRf := put4 (d := v) hR2 rfl
      have hBf := below_put4 hB2 (show w.heap.size ≤ w.heap.size + 1 by omega) v
      clear hR hB hR2 hB2 hE hrd
      simp only [D4.val]
      go_wp2_with fail
      generalize (((w2.setCell ⟨w.heap.size + 1, 0, none⟩ (.int .u32 v.d0)).setCell ⟨w.heap.size + 1, 1, none⟩ (.int .u32 v.d1)).setCell ⟨w.heap.size + 1, 2, none⟩ (.int .u32 v.d2)).setCell ⟨w.heap.size + 1, 3, none⟩ (.int .u32 v.d3) = wf at *
      obtain ⟨r0, r1, r2, r3⟩ := hRf.c4
      refine bodyPost_ret (v := .tuple #[v.val, .bool true]) (by simp [results, Tryd.results19, go_sem, D4.val, r0, r1, r2, r3]) rfl ⟨rfl, hBf⟩
set_option maxHeartbeats 2000000 in
set_option maxRecDepth 100000 in
theorem creach_no (msg : D4) (p : Option Addr) (n scap : Nat) (w : World) (hn : n ≠ 35) :
    Calls Tryd.prog 19 #[.agg #[.int .u32 msg.d0, .int .u32 msg.d1, .int .u32 msg.d2, .int .u32 msg.d3], .slice p n scap] w fun e w' => e = .returned (.tuple #[zeroD.val, .bool false]) ∧ Below w.heap.size w w' := by
  have hne : ((n : Int) != 35) = true := by simp; omega
  have hne2 : ((n : Int) == 35) = false := by simp; omega
  obtain ⟨w0, hw0⟩ : ∃ w0, (w.alloc (.cells #[.int .u32 msg.d0, .int .u32 msg.d1, .int .u32 msg.d2, .int .u32 msg.d3] 24)).alloc (.cells #[.int .u32 0, .int .u32 0, .int .u32 0, .int .u32 0] 24) = w0 := ⟨_, rfl⟩
  obtain ⟨hM0, hR0, hB0⟩ := start46 msg w w0 hw0
  obtain ⟨b0, b1, b2, b3⟩ := Arr.c4 (d := zeroD) hR0
  obtain ⟨f0, f1, f2, f3⟩ := hR0.f4
  have hRf := put4 (d := zeroD) hR0 rfl
  have hBf := below_put4 hB0 (show w.heap.size ≤ w.heap.size + 1 by omega) zeroD
  simp only [zeroD] at b0 b1 b2 b3 hRf hBf
  go_enter Tryd.func19, Tryd.ntmps19
  go_wp2_with fail
  generalize (((w0.setCell ⟨w.heap.size + 1, 0, none⟩ (.int .u32 0)).setCell ⟨w.heap.size + 1, 1, none⟩ (.int .u32 0)).setCell ⟨w.heap.size + 1, 2, none⟩ (.int .u32 0)).setCell ⟨w.heap.size + 1, 3, none⟩ (.int .u32 0) = wf at *
  obtain ⟨r0, r1, r2, r3⟩ := hRf.c4
  simp only at r0 r1 r2 r3
  refine bodyPost_ret (v := .tuple #[zeroD.val, .bool false]) (by simp [results, Tryd.results19, go_sem, D4.val, zeroD, r0, r1, r2, r3]) rfl ⟨rfl, hBf⟩
/-- What Reach answers: with whatever values. -/
def reachV (msg : D4) (S : List D4) : D4 := if S.length = 35 then reachD msg S else zeroD
def is35 (S : List D4) : Bool := decide (S.length = 35)
theorem creach_any (msg v : D4) (S : List D4) (g : Bool) (p : Option Addr) (n scap : Nat) (w : World) (hmo : msg.ok) (hSo : allD4 S) (hn : n = S.length) (hr : RdS w p S) (hsc : S.length ≤ scap) (hscm : scap ≤ maxLen) (hT : TurnsOk w) (hv : reachV msg S = v) (hg : is35 S = g) :
    Calls Tryd.prog 19 #[.agg #[.int .u32 msg.d0, .int .u32 msg.d1, .int .u32 msg.d2, .int .u32 msg.d3], .slice p n scap] w fun e w' => e = .returned (.tuple #[.agg #[.int .u32 v.d0, .int .u32 v.d1, .int .u32 v.d2, .int .u32 v.d3], .bool g]) ∧ Below w.heap.size w w' := by
  subst hn; subst hg
  by_cases h : S.length = 35
  · rw [reachV, if_pos h] at hv
    obtain ⟨b, o, rfl, hrd⟩ := hr (by intro e; subst e; simp at h)
    rw [is35, decide_eq_true h, h]
    exact creach_yes msg v S b o scap w hmo hSo h hrd (by omega) hscm hT hv
  · rw [reachV, if_neg h] at hv
    subst hv
    rw [is35, decide_eq_false h]
    exact creach_no msg p S.length scap w h
end Go.Proofs.YtkgkmpelclmllaaDoor
