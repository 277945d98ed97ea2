/-
  The document's Sign.
-/
import Derived.Test.YtkgkmpelclmllaaDoorOtM
import Derived.Deep.RegionHeld3
namespace Go.Proofs.YtkgkmpelclmllaaDoor
open Go.RowKit

set_option maxHeartbeats 4000000 in
set_option maxRecDepth 100000 in
theorem rsign_any (seed msg : D4) (L : List D4) (w : World) (hs : seed.ok) (hmo : msg.ok) (hL : signL seed msg = L) :
    Calls Tryd.prog 18 #[.agg #[.int .u32 seed.d0, .int .u32 seed.d1, .int .u32 seed.d2, .int .u32 seed.d3], .agg #[.int .u32 msg.d0, .int .u32 msg.d1, .int .u32 msg.d2, .int .u32 msg.d3]] w fun e w' => ∃ p c, e = .returned (.slice p 35 c) ∧ 35 ≤ c ∧ c ≤ maxLen ∧ RdS w' p L ∧ Below w.heap.size w w' := by
  obtain ⟨i0, hinf, hz0, hz1, hz2⟩ := info_parts info_dg
  obtain ⟨N, hN⟩ : ∃ N, numL msg = N := ⟨_, rfl⟩
  have hNl : N.length = 35 := by rw [← hN, numL_len]
  have HNl : Hid (∀ i, num msg i = N.getD i 0) := fun i => by rw [num, hN]
  have HNe := Lib.hid hN
  obtain ⟨f, hf⟩ : ∃ f, (fun i => walkD (beginD seed i) (num msg i)) = f := ⟨_, rfl⟩
  have HV : Hid (mapR f 35 = L) := by show _ = _; rw [← hL, signL, hf]
  have HF : Hid (∀ i, f i = walkD (beginD seed i) (num msg i)) := fun i => by rw [← hf]
  obtain ⟨w0, hw0⟩ : ∃ w0, (w.alloc (.cells #[.int .u32 seed.d0, .int .u32 seed.d1, .int .u32 seed.d2, .int .u32 seed.d3] 24)).alloc (.cells #[.int .u32 msg.d0, .int .u32 msg.d1, .int .u32 msg.d2, .int .u32 msg.d3] 24) = w0 := ⟨_, rfl⟩
  obtain ⟨hS0, hR0, hB0⟩ := start47 seed msg w w0 hw0
  have hs1 := hS0.lt
  obtain ⟨m0, m1, m2, m3⟩ := Arr.c4 hR0
  clear hL hf hN
  go_enter Tryd.func18, Tryd.ntmps18
  go_wp2_with fail
  clear hw0
  refine (rsteps_val msg N w0 hmo HNe.out).mono ?_
  rintro e w1 ⟨g, cap, rfl, hgl, hcap, hcm, hRN1, hD⟩
  have hS1 := hS0.on hD
  have hB1 := hB0.trans (hD.mono hB0.size)
  have hs01 := hD.size
  have hg1 := hRN1.1
  clear m0 m1 m2 m3 hD hS0 hR0 hB0
  go_wp2_with fail
  go_loopw [6, 7] (fun v i wr => ∃ k : Nat, k ≤ 35 ∧ i = .int .i64 (k : Int) ∧ OwnsD w1.heap.size v (mapR f k) wr ∧ Below w1.heap.size w1 wr) (fun _ i _ => 35 - (intOf i).toNat)
  case atStart => exact ⟨0, Nat.zero_le _, rfl, OwnsD.nil _ _, Below.refl _ _⟩
  case round =>
    obtain ⟨k, hk, rfl, hO, hC⟩ := hrel
    by_cases hlt : k < 35
    · have hkd : decide ((k : Int) < 35) = true := by simp; omega
      have hk0 : (0 : Int) ≤ (k : Int) := by omega
      have hk1 : (k : Int) < 35 := by omega
      have hn15 := num_le msg k
      rw [HNl.out k] at hn15
      have hcN := (hRN1.thr hC hg1 hC.size).2 k (by omega)
      obtain ⟨l0, l1, l2, l3⟩ := Arr.c4 (hS1.thr hC (by omega))
      obtain ⟨n, hn⟩ : ∃ n, N.getD k 0 = n := ⟨_, rfl⟩
      rw [hn] at hcN hn15
      obtain ⟨z, hz⟩ : ∃ z, beginD seed k = z := ⟨_, rfl⟩
      have hzo : z.ok := by rw [← hz]; exact beginD_ok hs (by omega)
      obtain ⟨y, hy⟩ : ∃ y, walkD z n = y := ⟨_, rfl⟩
      have HY : Hid (f k = y) := by show _ = _; rw [HF.out k, HNl.out k, hn, hz, hy]
      have HZ0 := Lib.hid hz
      have HY0 := Lib.hid hy
      have HZO := Lib.hid hzo
      have hml := mapR_len f k
      clear hz hy hzo hn
      have HS0 : Hid (wr.drew.cell? ⟨g, k, none⟩ = some (.int .i64 (n : Int)) ∧ wr.drew.cell? ⟨w.heap.size, 0, none⟩ = some (.int .u32 seed.d0) ∧ wr.drew.cell? ⟨w.heap.size, 0 + 1, none⟩ = some (.int .u32 seed.d1) ∧ wr.drew.cell? ⟨w.heap.size, 0 + 2, none⟩ = some (.int .u32 seed.d2) ∧ wr.drew.cell? ⟨w.heap.size, 0 + 3, none⟩ = some (.int .u32 seed.d3)) := ⟨hcN, l0, l1, l2, l3⟩
      have hb1 : g < w1.heap.size := hg1
      have hb2 : w.heap.size < w1.heap.size := by omega
      have hOd : OwnsD w1.heap.size u6 (mapR f k) wr.drew := hO
      have hbw : w1.heap.size ≤ wr.drew.heap.size := hC.size
      go_wp2_with fail
      go_region_held3 (fun w' => w'.cell? ⟨g, k, none⟩ = some (.int .i64 (n : Int)) ∧ w'.cell? ⟨w.heap.size, 0, none⟩ = some (.int .u32 seed.d0) ∧ w'.cell? ⟨w.heap.size, 1, none⟩ = some (.int .u32 seed.d1) ∧ w'.cell? ⟨w.heap.size, 2, none⟩ = some (.int .u32 seed.d2) ∧ w'.cell? ⟨w.heap.size, 3, none⟩ = some (.int .u32 seed.d3))
        (first
          | exact keep5 hC5 hb1 hb2 HS0.out
          | exact keep5 (hC4.alloc hb4 _) hb1 hb2 HS0.out
          | exact keep5 hC4 hb1 hb2 HS0.out
          | exact keep5 hC3 hb1 hb2 HS0.out
          | exact HS0.out)
        (first
          | (go_at_call 30; (with_reducible refine (rbegin_any seed z k _ hs (by omega) HZ0.out).mono ?_); rintro e w3 ⟨rfl, hD3⟩; have hC3 : Below w1.heap.size wr.drew w3 := hD3.mono hbw; have hO3 := hOd.on hD3; have hb3 := Nat.le_trans hbw hD3.size)
          | (go_at_call 24; (with_reducible refine (rwalk_any n _ z y _ HZO.out (by omega) rfl HY0.out).mono ?_); rintro e w4 ⟨rfl, hD4⟩; have hC4 : Below w1.heap.size wr.drew w4 := hC3.trans (hD4.mono hb3); have hO4 : w4.ownsRow w1.heap.size 24 4 u6 (mapR f k).length (dCells (mapR f k)) := hO3.on hD4; have hb4 := Nat.le_trans hb3 hD4.size)
          | (refine step_append_lies _ (by rfl) _ _ _ (by rfl) w1.heap.size 24 i0 _ 4 16 Tryd.underlying33 hinf hz0 hz1 hz2 rfl (by omega) u6 (mapR f k).length (dCells (mapR f k)) (by rfl) (hO4.alloc _) ⟨w4.heap.size, 0, none⟩ 1 1 [.int .u32 y.d0, .int .u32 y.d1, .int .u32 y.d2, .int .u32 y.d3] (by rfl) (by rfl) (World.news_of_block (cs := #[.int .u32 y.d0, .int .u32 y.d1, .int .u32 y.d2, .int .u32 y.d3]) (t := 24) (fr := (0, 0)) (heap_alloc_new w4 _)) (by simp [Value.oneCell']) (by omega) (by unfold maxLen; omega) (by omega) (by simp; omega) (w4.heap.size + 1) (by simp) ?_; intro gg gcap w5 hown5 hgrow hat hlt5; have hC5 : Below w1.heap.size wr.drew w5 := (hC4.alloc hb4 _).grown hgrow (by simp; omega) (fun k hk => (World.ownsRow.lt hO4 k hk).1)))
      all_goals
        have hO5 := OwnsD.snoc (d := y) hown5
        rw [← HY.out, ← mapR_succ, hml] at hO5
        have hCf := hC.drew.trans hC5
        clear hown5 hgrow hat hO4 hC4 hO3 hC3 hD3 hD4 hOd hO hC
        go_wp2_with fail
        go_roundw
        case rel => exact ⟨k + 1, by omega, by go_num, hO5, hCf⟩
        case measure => simp [intOf]; omega
    · have hk35 : k = 35 := by omega
      subst hk35
      obtain ⟨p, c, rfl, hc, hm, hrd⟩ := hO.form
      have hml := mapR_len f 35
      rw [hml] at hc ⊢
      rw [HV.out] at hrd
      have hB := hB1.trans (hC.mono hB1.size)
      clear hO hml
      go_wp2_with fail
      go_ret
      exact ⟨p, c, rfl, hc, hm, hrd, hB⟩
end Go.Proofs.YtkgkmpelclmllaaDoor
