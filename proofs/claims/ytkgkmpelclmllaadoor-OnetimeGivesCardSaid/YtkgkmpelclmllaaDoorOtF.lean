/-
  The code's Sign and Reach.
-/
import Derived.Test.YtkgkmpelclmllaaDoorOtE
namespace Go.Proofs.YtkgkmpelclmllaaDoor
open Go.RowKit

theorem RdN.far4 {w : World} {g b j : Nat} {l : List Nat} (h : RdN w g l) (hne : g ≠ b) (d : D4) : RdN ((((w.setCell ⟨b, j, none⟩ (.int .u32 d.d0)).setCell ⟨b, j + 1, none⟩ (.int .u32 d.d1)).setCell ⟨b, j + 2, none⟩ (.int .u32 d.d2)).setCell ⟨b, j + 3, none⟩ (.int .u32 d.d3)) g l := by
  refine ⟨by have := h.1; simpa using this, fun i hi => ?_⟩
  have hx : ∀ o, (⟨b, o, none⟩ : Addr) ≠ ⟨g, i, none⟩ := fun o e => hne (by injection e with e1; exact e1.symm)
  rw [World.cell?_setCell_other _ _ _ _ (hx _), World.cell?_setCell_other _ _ _ _ (hx _), World.cell?_setCell_other _ _ _ _ (hx _), World.cell?_setCell_other _ _ _ _ (hx _)]
  exact h.2 i hi
/-- Two values boxed. -/
theorem start47 (x y : D4) (w w0 : World) (h : (w.alloc (.cells #[.int .u32 x.d0, .int .u32 x.d1, .int .u32 x.d2, .int .u32 x.d3] 24)).alloc (.cells #[.int .u32 y.d0, .int .u32 y.d1, .int .u32 y.d2, .int .u32 y.d3] 24) = w0) :
    Arr .u32 24 w.heap.size x.toL w0 ∧ Arr .u32 24 (w.heap.size + 1) y.toL w0 ∧ Below w.heap.size w w0 := by
  subst h
  obtain ⟨w1, h1⟩ : ∃ w1, w.alloc (.cells #[.int .u32 x.d0, .int .u32 x.d1, .int .u32 x.d2, .int .u32 x.d3] 24) = w1 := ⟨_, rfl⟩
  have hA1 : Arr .u32 24 w.heap.size x.toL w1 := by rw [← h1]; exact heap_alloc_new w _
  have a1 : w1.heap.size = w.heap.size + 1 := by rw [← h1]; simp
  have B1 : Below w.heap.size w w1 := by rw [← h1]; exact (Below.refl _ _).alloc (Nat.le_refl _) _
  rw [h1]
  refine ⟨hA1.al _, ?_, B1.alloc (by omega) _⟩
  rw [← a1]
  exact heap_alloc_new w1 _
theorem csteps_val (d : D4) (N : List Nat) (w : World) (hd : d.ok) (hN : numL d = N) :
    Calls Tryd.prog 12 #[.agg #[.int .u32 d.d0, .int .u32 d.d1, .int .u32 d.d2, .int .u32 d.d3]] w fun e w' => ∃ g cap, e = .returned (.slice (some ⟨g, 0, none⟩) 35 cap) ∧ w.heap.size ≤ g ∧ 35 ≤ cap ∧ cap ≤ maxLen ∧ RdN w' g N ∧ Below w.heap.size w w' := by
  subst hN; exact csteps_any d w hd

set_option maxHeartbeats 2000000 in
set_option maxRecDepth 100000 in
theorem csign_any (seed msg : D4) (L : List D4) (w : World) (hs : seed.ok) (hmo : msg.ok) (hT : TurnsOk w) (hL : signL seed msg = L) :
    Calls Tryd.prog 17 #[.agg #[.int .u32 seed.d0, .int .u32 seed.d1, .int .u32 seed.d2, .int .u32 seed.d3], .agg #[.int .u32 msg.d0, .int .u32 msg.d1, .int .u32 msg.d2, .int .u32 msg.d3]] w fun e w' => ∃ g, e = .returned (.slice (some ⟨g, 0, none⟩) 35 35) ∧ w.heap.size ≤ g ∧ RdL w' g 0 L ∧ Below w.heap.size w w' := by
  obtain ⟨i0, hinf, hz0, hz1, hz2⟩ := info_parts info_dg
  obtain ⟨N, hN⟩ : ∃ N, numL msg = N := ⟨_, rfl⟩
  have hNl : N.length = 35 := by rw [← hN, numL_len]
  have HNl : Hid (∀ i, num msg i = N.getD i 0) := fun i => by rw [num, hN]
  have HNe := Lib.hid hN
  obtain ⟨f, hf⟩ : ∃ f, (fun i => walkD (beginD seed i) (num msg i)) = f := ⟨_, rfl⟩
  have HV : Hid (mapR f 35 = L) := by show _ = _; rw [← hL, signL, hf]
  have HF : Hid (∀ i, f i = walkD (beginD seed i) (num msg i)) := fun i => by rw [← hf]
  obtain ⟨w0, hw0⟩ : ∃ w0, (w.alloc (.cells #[.int .u32 seed.d0, .int .u32 seed.d1, .int .u32 seed.d2, .int .u32 seed.d3] 24)).alloc (.cells #[.int .u32 msg.d0, .int .u32 msg.d1, .int .u32 msg.d2, .int .u32 msg.d3] 24) = w0 := ⟨_, rfl⟩
  obtain ⟨hS0, hR0, hB0⟩ := start47 seed msg w w0 hw0
  have hT0 := hT.below hB0
  have hs1 := hS0.lt
  have hs2 := hR0.lt
  have hgT : 0 < w0.heap.size := tab_low hT0 gTrn
  clear hL hf hT hN
  go_enter Tryd.func17, Tryd.ntmps17
  go_wp2_with (at_make; refine wpList_make_full _ rfl _ _ 33 rfl w0.heap.size 24 i0 (.agg #[.int .u32 0, .int .u32 0, .int .u32 0, .int .u32 0]) 4 Tryd.underlying33 hinf hz0 hz1 .i64 .i64 _ _ 35 rfl rfl rfl rfl (by rw [hz2]; omega) (by unfold maxLen; omega) (Nat.le_refl _) ?_; intro w1 hown1 hg1; have hC1 : Below w0.heap.size w0 w1 := (Below.refl _ _).grown hg1 (Nat.le_refl _) (fun k hk => by cases hk); obtain ⟨m0, m1, m2, m3⟩ := Arr.c4 (hR0.on hC1))
  rw [made35 f] at hown1
  have hO1 : OwnsD w0.heap.size (.slice (some ⟨w0.heap.size, 0, none⟩) 35 35) (fillR f 35 0) w1 := by unfold OwnsD; rw [fillR_len]; exact hown1
  have hgl1 := (World.ownsRow.lt hown1 w0.heap.size rfl).2
  clear hown1 hg1 hw0
  refine (csteps_val msg N w1 hmo HNe.out).mono ?_
  rintro e w2 ⟨g, cap, rfl, hgl, hcap, hcm, hRN, hD⟩
  have hO2 := hO1.on hD
  have hC2 := hC1.trans (hD.mono hC1.size)
  clear hO1 hC1 hD m0 m1 m2 m3
  go_wp2_with fail
  go_loopw [12] (fun i wr => ∃ k : Nat, k ≤ 35 ∧ i = .int .i64 (k : Int) ∧ OwnsD w0.heap.size (.slice (some ⟨w0.heap.size, 0, none⟩) 35 35) (fillR f 35 k) wr ∧ RdN wr g N ∧ Below w0.heap.size w0 wr) (fun i _ => 35 - (intOf i).toNat)
  case atStart => exact ⟨0, Nat.zero_le _, rfl, hO2, hRN, hC2⟩
  case round =>
    clear hO2 hC2 hRN
    obtain ⟨k, hk, rfl, hO, hRN, hC⟩ := hrel
    have hS := hS0.thr hC hs1
    have hTr := turns_far hT0 hgT hC
    obtain ⟨l0, l1, l2, l3⟩ := Arr.c4 hS
    by_cases hlt : k < 35
    · have hkd : decide ((k : Int) < 35) = true := by simp; omega
      have hk0 : (0 : Int) ≤ (k : Int) := by omega
      have hk1 : (k : Int) < 35 := by omega
      have hcN := hRN.2 k (by omega)
      have hn15 := num_le msg k
      rw [HNl.out k] at hn15
      obtain ⟨n, hn⟩ : ∃ n, N.getD k 0 = n := ⟨_, rfl⟩
      rw [hn] at hcN hn15
      obtain ⟨z, hz⟩ : ∃ z, beginD seed k = z := ⟨_, rfl⟩
      have hzo : z.ok := by rw [← hz]; exact beginD_ok hs (by omega)
      obtain ⟨y, hy⟩ : ∃ y, walkD z n = y := ⟨_, rfl⟩
      have HY : Hid (f k = y) := by show _ = _; rw [HF.out k, HNl.out k, hn, hz, hy]
      have HZ0 := Lib.hid hz
      have HY0 := Lib.hid hy
      have HZO := Lib.hid hzo
      clear hz hy hzo hn
      go_wp2_with fail
      refine (cchain_any seed z k wr hs (by omega) hTr HZ0.out).mono ?_
      rintro e w1 ⟨b, rfl, hb, hA, hD⟩
      have hT1 := hTr.below hD
      have hgw : 0 < wr.heap.size := tab_low hTr gTrn
      unfold walker
      go_wp2_with fail
      refine (cwalk_val wr.heap.size b n n z y w1 HZO.out hA hb hT1 hgw (by omega) rfl HY0.out).mono ?_
      rintro e w2 ⟨rfl, hE⟩
      have hD2 := hD.trans hE
      have hO2 := hO.on hD2
      have hRN2 := hRN.on hD2
      have hC2 := hC.trans (hD2.mono hC.size)
      have hfl := fillR_len f 35 k
      clear hS hTr hA hD hT1 hE hO hC hD2 l0 l1 l2 l3 hRN hcN
      obtain ⟨c0, c1, c2, c3⟩ := hO2.at hfl (i := k) (by omega)
      have f0 := hO2.fz hfl (k * 4)
      have f1 := hO2.fz hfl (k * 4 + 1)
      have f2 := hO2.fz hfl (k * 4 + 2)
      have f3 := hO2.fz hfl (k * 4 + 3)
      have hO3 := hO2.put hfl (i := k) (by omega) y
      have hC3 := below_row4 (j := k * 4) hC2 (Nat.le_refl _) y
      have hRN3 := hRN2.far4 (b := w0.heap.size) (j := k * 4) (by omega) y
      rw [← HY.out, fillR_step f 35 k, HY.out] at hO3
      clear hO2 hC2 hRN2
      go_wp2_with fail
      generalize (((w2.setCell ⟨w0.heap.size, k * 4, none⟩ (.int .u32 y.d0)).setCell ⟨w0.heap.size, k * 4 + 1, none⟩ (.int .u32 y.d1)).setCell ⟨w0.heap.size, k * 4 + 2, none⟩ (.int .u32 y.d2)).setCell ⟨w0.heap.size, k * 4 + 3, none⟩ (.int .u32 y.d3) = w3 at *
      go_roundw
      case rel => exact ⟨k + 1, by omega, by go_num, hO3, hRN3, hC3⟩
      case measure => simp [intOf]; omega
    · have hk35 : k = 35 := by omega
      subst hk35
      rw [fillR_full] at hO
      have hB := hB0.trans (hC.mono hB0.size)
      have hml := mapR_len f 35
      have hrd := hO.reads hml (by omega)
      rw [HV.out] at hrd
      clear hO hS hC l0 l1 l2 l3 hml
      go_wp2_with fail
      go_ret
      exact ⟨_, rfl, hB0.size, hrd, hB⟩
end Go.Proofs.YtkgkmpelclmllaaDoor
