/-
  The walk of OnetimeUnlike (written by gen_laws5.py).
-/
import Derived.Test.YtkgkmpelclmllaaDoorOtLA
import Derived.Test.YtkgkmpelclmllaaDoorOtU
namespace Go.Proofs.YtkgkmpelclmllaaDoor
open Go.RowKit

set_option maxHeartbeats 8000000 in
set_option maxRecDepth 100000 in
theorem unlike_walk (msg other : D4) (w : World) (hmo : msg.ok) (hoo : other.ok) (hT : TurnsOk w) : Calls Tryd.prog 7 #[.agg #[.int .u32 msg.d0, .int .u32 msg.d1, .int .u32 msg.d2, .int .u32 msg.d3], .agg #[.int .u32 other.d0, .int .u32 other.d1, .int .u32 other.d2, .int .u32 other.d3]] w fun e w' => e = .returned (.bool true) ∧ Below w.heap.size w w' := by
  obtain ⟨Na, hNa⟩ : ∃ N, numL msg = N := ⟨_, rfl⟩
  obtain ⟨Nb, hNb⟩ : ∃ N, numL other = N := ⟨_, rfl⟩
  have hal : Na.length = 35 := by rw [← hNa, numL_len]
  have hbl : Nb.length = 35 := by rw [← hNb, numL_len]
  have HA : Hid (∀ i, num msg i = Na.getD i 0) := fun i => by rw [num, hNa]
  have HB : Hid (∀ i, num other i = Nb.getD i 0) := fun i => by rw [num, hNb]
  obtain ⟨s, hs⟩ : ∃ s, sameD msg other = s := ⟨_, rfl⟩
  have hs' : sameD other msg = s := by
    rw [← hs]
    rcases Bool.eq_false_or_eq_true (sameD msg other) with q | q
    · rw [q]; exact (sameD_iff _ _).mpr ((sameD_iff _ _).mp q).symm
    · rw [q]
      rcases Bool.eq_false_or_eq_true (sameD other msg) with k | k
      · rw [(sameD_iff _ _).mpr ((sameD_iff _ _).mp k).symm] at q; cases q
      · exact k
  have HL : Hid (anyL (num msg) (num other) 35 = !s) := by show _ = _; rw [any_unlike hmo hoo, hs]
  have HG : Hid (anyL (num other) (num msg) 35 = !s) := by show _ = _; rw [any_unlike hoo hmo, hs']
  have hE := eqD_run msg other
  rw [hs] at hE
  have HNa := Lib.hid hNa
  have HNb := Lib.hid hNb
  clear hNa hNb hs hs'
  obtain ⟨w0, hw0⟩ : ∃ w0, (w.alloc (.cells #[.int .u32 msg.d0, .int .u32 msg.d1, .int .u32 msg.d2, .int .u32 msg.d3] 24)).alloc (.cells #[.int .u32 other.d0, .int .u32 other.d1, .int .u32 other.d2, .int .u32 other.d3] 24) = w0 := ⟨_, rfl⟩
  obtain ⟨hA0, hM0, hB0⟩ := start47 msg other w w0 hw0
  have hb1 : w.heap.size < w0.drew.heap.size := hA0.lt
  have hb2 : w.heap.size + 1 < w0.drew.heap.size := hM0.lt
  have ha4 := Arr.c4 (show Arr .u32 24 w.heap.size msg.toL w0.drew from hA0)
  have hm4 := Arr.c4 (show Arr .u32 24 (w.heap.size + 1) other.toL w0.drew from hM0)
  have HS0 : Hid (w0.drew.cell? ⟨w.heap.size, 0, none⟩ = some (.int .u32 msg.d0) ∧ w0.drew.cell? ⟨w.heap.size, 1, none⟩ = some (.int .u32 msg.d1) ∧ w0.drew.cell? ⟨w.heap.size, 2, none⟩ = some (.int .u32 msg.d2) ∧ w0.drew.cell? ⟨w.heap.size, 3, none⟩ = some (.int .u32 msg.d3) ∧ w0.drew.cell? ⟨w.heap.size + 1, 0, none⟩ = some (.int .u32 other.d0) ∧ w0.drew.cell? ⟨w.heap.size + 1, 1, none⟩ = some (.int .u32 other.d1) ∧ w0.drew.cell? ⟨w.heap.size + 1, 2, none⟩ = some (.int .u32 other.d2) ∧ w0.drew.cell? ⟨w.heap.size + 1, 3, none⟩ = some (.int .u32 other.d3)) := ⟨ha4.1, ha4.2.1, ha4.2.2.1, ha4.2.2.2, hm4.1, hm4.2.1, hm4.2.2.1, hm4.2.2.2⟩
  have hTd : TurnsOk w0.drew := hT.below hB0.drew
  have hCur : Below w0.drew.heap.size w0.drew w0.drew := Below.refl _ _
  clear hT hA0 hM0 ha4 hm4
  go_enter Tryd.func7, Tryd.ntmps7
  go_wp2_with fail
  clear hw0
  go_region_held3 (fun w' => w'.cell? ⟨w.heap.size, 0, none⟩ = some (.int .u32 msg.d0) ∧ w'.cell? ⟨w.heap.size, 1, none⟩ = some (.int .u32 msg.d1) ∧ w'.cell? ⟨w.heap.size, 2, none⟩ = some (.int .u32 msg.d2) ∧ w'.cell? ⟨w.heap.size, 3, none⟩ = some (.int .u32 msg.d3) ∧ w'.cell? ⟨w.heap.size + 1, 0, none⟩ = some (.int .u32 other.d0) ∧ w'.cell? ⟨w.heap.size + 1, 1, none⟩ = some (.int .u32 other.d1) ∧ w'.cell? ⟨w.heap.size + 1, 2, none⟩ = some (.int .u32 other.d2) ∧ w'.cell? ⟨w.heap.size + 1, 3, none⟩ = some (.int .u32 other.d3))
    (first | exact keepB2 hCur hb1 hb2 HS0.out)
    (first
      | (go_at_call 12; (with_reducible refine (csteps_val msg Na _ hmo HNa.out).mono ?_); rintro e wc ⟨ga, ca, rfl, hga, hca, hcam, hRa, hP⟩; (try have hRb := hRb.on hP); have hCur : Below w0.drew.heap.size w0.drew wc := hCur.trans (hP.mono hCur.size))
      | (go_at_call 12; (with_reducible refine (csteps_val other Nb _ hoo HNb.out).mono ?_); rintro e wd ⟨gb, cb, rfl, hgb, hcb, hcbm, hRb, hP⟩; (try have hRa := hRa.on hP); have hCur : Below w0.drew.heap.size w0.drew wd := hCur.trans (hP.mono hCur.size)))
  all_goals
    unfold maxLen at hcam hcbm
    clear hP
    go_wp2_with fail
    go_loopw [7, 8, 9] (fun l m i wr => ∃ k : Nat, k ≤ 35 ∧ i = .int .i64 (k : Int) ∧ l = .bool (anyL (num msg) (num other) k) ∧ m = .bool (anyL (num other) (num msg) k) ∧ RdN wr ga Na ∧ RdN wr gb Nb ∧ Below w0.drew.heap.size w0.drew wr) (fun _ _ i _ => 35 - (intOf i).toNat)
    case atStart => exact ⟨0, Nat.zero_le _, rfl, rfl, rfl, hRa, hRb, hCur⟩
    case round =>
      clear hRa hRb hCur
      obtain ⟨k, hk, rfl, rfl, rfl, hRa, hRb, hCur⟩ := hrel
      by_cases hlt : k < 35
      · have hkd : decide ((k : Int) < 35) = true := by simp; omega
        have hk0 : (0 : Int) ≤ (k : Int) := by omega
        have hk1 : (k : Int) < 35 := by omega
        have hca0 := hRa.2 k (by omega)
        have hcb0 := hRb.2 k (by omega)
        have ha15 := num_le msg k
        have hsl : Hid (∀ na nb, num msg k = na → num other k = nb → anyL (num msg) (num other) (k + 1) = (anyL (num msg) (num other) k || decide (na < nb)) ∧ anyL (num other) (num msg) (k + 1) = (anyL (num other) (num msg) k || decide (nb < na))) := fun na nb e1 e2 => by
          rw [anyL, anyL, e1, e2]; exact ⟨rfl, rfl⟩
        have HA1 := Lib.hid (HA.out k)
        have HB1 := Lib.hid (HB.out k)
        rw [HA.out k] at ha15
        obtain ⟨na, hna⟩ : ∃ n, Na.getD k 0 = n := ⟨_, rfl⟩
        obtain ⟨nb, hnb⟩ : ∃ n, Nb.getD k 0 = n := ⟨_, rfl⟩
        rw [hna] at hca0 ha15
        rw [hnb] at hcb0
        have HS1 := Lib.hid (hsl.out na nb (by rw [HA1.out, hna]) (by rw [HB1.out, hnb]))
        have hd0 : decide ((na : Int) < 0) = false := by simp
        have hd15 : decide ((15 : Int) < (na : Int)) = false := by simp; omega
        obtain ⟨l1, hl1⟩ : ∃ l, anyL (num msg) (num other) k = l := ⟨_, rfl⟩
        obtain ⟨m1, hm1⟩ : ∃ l, anyL (num other) (num msg) k = l := ⟨_, rfl⟩
        rw [hl1, hm1]
        have HS3 : Hid (anyL (num msg) (num other) (k + 1) = (l1 || decide (na < nb)) ∧ anyL (num other) (num msg) (k + 1) = (m1 || decide (nb < na))) := by
          have := HS1.out
          rw [hl1, hm1] at this
          exact this
        clear hna hnb hsl hl1 hm1 HS1
        have hC1 : Below w0.drew.heap.size w0.drew wr.drew := hCur.drew
        have hC2 : Below w0.drew.heap.size w0.drew wr.drew.drew := hC1.drew
        cases l1 <;> cases m1
        all_goals
          go_wp2_with fail
          go_region
          all_goals
            go_wp2_with fail
            go_region
            all_goals
              go_wp2_with fail
              go_roundw
              case rel => exact ⟨k + 1, by omega, by go_num, by rw [HS3.out.1]; rfl, by rw [HS3.out.2]; rfl, hRa, hRb, hC2⟩
              case measure => simp [intOf]; omega
      · have hk35 : k = 35 := by omega
        subst hk35
        rw [HL.out, HG.out]
        go_wp2_with fail
        refine (awake5_any wr (hTd.below hCur)).mono ?_
        rintro e w5 ⟨rfl, hP⟩
        have hC5 : Below w0.drew.heap.size w0.drew w5 := hCur.trans (hP.mono hCur.size)
        obtain ⟨q0, q1, q2, q3, q4, q5, q6, q7⟩ := keepB2 hC5 hb1 hb2 HS0.out
        clear hP hCur
        cases s
        all_goals
          go_wp2_with fail
          go_ret
          exact ⟨rfl, hB0.drew.trans (hC5.mono hB0.size)⟩

end Go.Proofs.YtkgkmpelclmllaaDoor
