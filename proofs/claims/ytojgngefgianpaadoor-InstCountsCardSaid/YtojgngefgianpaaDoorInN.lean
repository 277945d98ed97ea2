/-
  InstCounts: the walk.
-/
import Derived.Test.YtojgngefgianpaaDoorInK
namespace Go.Proofs.YtojgngefgianpaaDoor
open Go.RowKit

theorem OpsOk.thr2 {B : Nat} {w w' : World} (h : OpsOk w) (hB : Below B w w') (hg : 0 < B) : OpsOk w' := by
  obtain ⟨t, fr, h⟩ := h
  exact ⟨t, fr, by rw [hB.block _ hg]; exact h⟩
theorem names_apart (i k : Int) (h1 : 1 ≤ i) (h2 : i ≤ 27) (h3 : 1 ≤ k) (h4 : k < i) : ((nameB i).toList == (nameB k).toList) = false := by
  rw [beq_eq_false_iff_ne]
  intro e
  rw [ByteArray.toList_eq, ByteArray.toList_eq] at e
  have e2 := congrArg opOf (bytes_eq e)
  rw [opOf_name i h1 h2, opOf_name k h3 (by omega)] at e2
  omega
set_option maxHeartbeats 8000000 in
set_option maxRecDepth 100000 in
theorem counts_walk (p : Int) (w : World) (hO0 : OpsOk w) (hT : PowOk w) : Calls Tryd.prog 8 #[.int .i64 p] w fun e w' => e = .returned (.bool true) ∧ Below w.heap.size w w' := by
  have hg0 := hO0.low
  obtain ⟨pn, hpn⟩ : ∃ n, nameB p = n := ⟨_, rfl⟩
  have HPN := Lib.hid hpn
  clear hpn
  go_enter Tryd.func8, Tryd.ntmps8
  go_wp2_with fail
  refine (alive_any w hO0 hT).mono ?_
  rintro e w1 ⟨rfl, hB⟩
  have HO : Hid (OpsOk w) := hO0
  clear hO0 hT
  go_wp2_with fail
  go_loopw [3, 4] (fun n i wr => ∃ j : Nat, 1 ≤ j ∧ j ≤ 28 ∧ i = .int .i64 (j : Int) ∧ n = .int .i64 ((j : Int) - 1) ∧ Below w.heap.size w wr) (fun _ i _ => 28 - (intOf i).toNat)
  case atStart => exact ⟨1, by omega, by omega, rfl, rfl, hB⟩
  case round =>
    clear hB
    obtain ⟨j, hj1, hj2, rfl, rfl, hB⟩ := hrel
    by_cases hlt : j ≤ 27
    · have hjd : decide ((j : Int) ≤ 27) = true := decide_eq_true (by omega)
      obtain ⟨n, hn⟩ : ∃ n, nameB (j : Int) = n := ⟨_, rfl⟩
      have hne : n.toList.isEmpty = false := by rw [← hn]; exact name_ne _ (by omega) (by omega)
      have HN := Lib.hid hn
      clear hn
      go_wp2_with fail
      go_loopw [5] (fun k wr => ∃ m : Nat, 1 ≤ m ∧ m ≤ j ∧ k = .int .i64 (m : Int) ∧ Below w.heap.size w wr) (fun k _ => j - (intOf k).toNat)
      case atStart => exact ⟨1, by omega, by omega, rfl, hB⟩
      case round =>
        clear hB
        obtain ⟨m, hm1, hm2, rfl, hB⟩ := hrel
        by_cases hmj : m < j
        · have hmd : decide ((m : Int) < (j : Int)) = true := decide_eq_true (by omega)
          have hap := names_apart (j : Int) (m : Int) (by omega) (by omega) (by omega) (by omega)
          obtain ⟨q, hq⟩ : ∃ n, nameB (m : Int) = n := ⟨_, rfl⟩
          rw [HN.out, hq] at hap
          have HQ := Lib.hid hq
          clear hq
          go_wp2_with fail
          refine (cname_val (j : Int) n _ (HO.out.thr2 hB hg0) HN.out).mono ?_
          rintro e w2 ⟨rfl, hD⟩
          have hB2 := hB.trans (hD.mono hB.size)
          clear hD
          go_wp2_with fail
          refine (cname_val (m : Int) q _ (HO.out.thr2 hB2 hg0) HQ.out).mono ?_
          rintro e w3 ⟨rfl, hD⟩
          have hB3 := hB2.trans (hD.mono hB2.size)
          clear hD
          go_wp2_with fail
          go_roundw
          case rel => exact ⟨m + 1, by omega, by omega, by go_num, hB3⟩
          case measure => simp [intOf]; omega
        · have hmd : decide ((m : Int) < (j : Int)) = false := decide_eq_false (by omega)
          go_wp2_with fail
          refine (cname_val (j : Int) n _ (HO.out.thr2 hB hg0) HN.out).mono ?_
          rintro e w2 ⟨rfl, hD⟩
          have hB2 := hB.trans (hD.mono hB.size)
          clear hD
          go_wp2_with fail
          exact ⟨⟨j + 1, by omega, by omega, by go_num, by rw [show ((j + 1 : Nat) : Int) - 1 = (j : Int) by omega], hB2⟩, by simp [intOf]; omega⟩
    · have hj28 : j = 28 := by omega
      subst hj28
      by_cases hp : p < 1 ∨ 27 < p
      · have HZ := Lib.hid (nameB_no p hp)
        rcases hp with hp | hp
        · have e1 : decide ((1 : Int) ≤ p) = false := decide_eq_false (by omega)
          clear hp
          go_wp2_with fail
          refine (cname_val p ⟨#[]⟩ _ (HO.out.thr2 hB hg0) HZ.out).mono ?_
          rintro e w2 ⟨rfl, hD⟩
          go_wp2_with fail
          go_ret
          exact ⟨rfl, hB.trans (hD.mono hB.size)⟩
        · have e1 : decide ((1 : Int) ≤ p) = true := decide_eq_true (by omega)
          have e2 : decide (p ≤ (27 : Int)) = false := decide_eq_false (by omega)
          clear hp
          go_wp2_with fail
          refine (cname_val p ⟨#[]⟩ _ (HO.out.thr2 hB hg0) HZ.out).mono ?_
          rintro e w2 ⟨rfl, hD⟩
          go_wp2_with fail
          go_ret
          exact ⟨rfl, hB.trans (hD.mono hB.size)⟩
      · have e1 : decide ((1 : Int) ≤ p) = true := decide_eq_true (by omega)
        have e2 : decide (p ≤ (27 : Int)) = true := decide_eq_true (by omega)
        have hpe : pn.toList.isEmpty = false := by rw [← HPN.out]; exact name_ne p (by omega) (by omega)
        clear hp
        go_wp2_with fail
        refine (cname_val p pn _ (HO.out.thr2 hB hg0) HPN.out).mono ?_
        rintro e w2 ⟨rfl, hD⟩
        go_wp2_with fail
        go_ret
        exact ⟨rfl, hB.trans (hD.mono hB.size)⟩
end Go.Proofs.YtojgngefgianpaaDoor
