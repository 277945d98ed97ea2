/-
  Are two lists the same: the document's Same; the law's ints.
-/
import Derived.Test.YtkgkmpelclmllaaDoorOtA
namespace Go.Proofs.YtkgkmpelclmllaaDoor
open Go.RowKit

theorem take_next (l : List D4) (k : Nat) (h : k < l.length) : l.take (k + 1) = l.take k ++ [l.getD k zeroD] := by
  rw [List.take_add_one, List.getD_eq_getElem?_getD, List.getElem?_eq_getElem h]
  rfl
theorem not_same (l m : List D4) (k : Nat) (h : l.getD k zeroD ≠ m.getD k zeroD) : l ≠ m := fun e => h (by rw [e])
set_option maxHeartbeats 2000000 in
set_option maxRecDepth 100000 in
theorem rsame_any (l m : List D4) (a b : Option Addr) (n n' c d : Nat) (w : World) (hn : n = l.length) (hn' : n' = m.length) (ha : RdS w a l) (hb : RdS w b m) (hc : n ≤ c) (hcm : c ≤ maxLen) (hd : n' ≤ d) (_hdm : d ≤ maxLen) :
    Calls Tryd.prog 16 #[.slice a n c, .slice b n' d] w fun e w' => e = .returned (.bool (decide (l = m))) ∧ Below w.heap.size w w' := by
  unfold maxLen at hcm _hdm
  by_cases hnm : n = n'
  · subst hnm
    have HN := Lib.hid hn
    have HN' := Lib.hid hn'
    clear hn hn'
    go_enter Tryd.func16, Tryd.ntmps16
    go_wp2
    go_loopw [5] (fun v wr => ∃ k : Nat, k ≤ n ∧ v = .int .i64 (k : Int) ∧ Below w.heap.size w wr ∧ Hid (l.take k = m.take k)) (fun v _ => n - (intOf v).toNat)
    case atStart => exact ⟨0, Nat.zero_le _, rfl, Below.refl _ _, Lib.hid rfl⟩
    case round =>
      obtain ⟨k, hk, rfl, hB, HT⟩ := hrel
      by_cases hlt : k < n
      · have hl : k < l.length := by have := HN.out; omega
        have hm : k < m.length := by have := HN'.out; omega
        obtain ⟨b1, o1, rfl, h1⟩ := ha (by intro e; subst e; simp at hl)
        obtain ⟨b2, o2, rfl, h2⟩ := hb (by intro e; subst e; simp at hm)
        obtain ⟨c0, c1, c2, c3⟩ := (h1.2 k hl).on hB h1.1
        obtain ⟨d0, d1, d2, d3⟩ := (h2.2 k hm).on hB h2.1
        obtain ⟨x, hx⟩ : ∃ x, l.getD k zeroD = x := ⟨_, rfl⟩
        obtain ⟨y, hy⟩ : ∃ y, m.getD k zeroD = y := ⟨_, rfl⟩
        rw [hx] at c0 c1 c2 c3
        rw [hy] at d0 d1 d2 d3
        obtain ⟨q, hq⟩ : ∃ q, sameD x y = q := ⟨_, rfl⟩
        have hE := eqD_run x y
        rw [hq] at hE
        have HX := Lib.hid hx
        have HY := Lib.hid hy
        have HQ := Lib.hid hq
        clear hx hy hq
        have hk0 : (0 : Int) ≤ (k : Int) := by omega
        have hkn : (k : Int) < (n : Int) := by omega
        cases q
        · go_wp2_with fail
          go_region
          all_goals
            go_wp2
            go_ret
            refine ⟨?_, hB.drew⟩
            have : l ≠ m := not_same l m k (by rw [HX.out, HY.out]; intro e; have := HQ.out; rw [(sameD_iff x y).mpr e] at this; cases this)
            rw [decide_eq_false this]; rfl
        · go_wp2_with fail
          go_region
          all_goals
            go_wp2
            go_round
            case rel =>
              refine ⟨k + 1, by omega, by go_num, hB.drew, Lib.hid ?_⟩
              rw [take_next l k hl, take_next m k hm, HT.out, HX.out, HY.out, (sameD_iff x y).mp HQ.out]
            case measure => simp [intOf]; omega
      · have hkn : k = n := by omega
        subst hkn
        go_wp2
        go_ret
        refine ⟨?_, hB⟩
        have : l = m := by
          have h1 := HT.out
          rwa [List.take_of_length_le (by have := HN.out; omega), List.take_of_length_le (by have := HN'.out; omega)] at h1
        rw [decide_eq_true this]; rfl
  · have hne : ((n : Int) == (n' : Int)) = false := by simp; omega
    have hne2 : ((n : Int) != (n' : Int)) = true := by simp; omega
    have hd : decide (l = m) = false := decide_eq_false (fun e => hnm (by rw [hn, hn', e]))
    rw [hd]
    clear hd hn hn'
    go_enter Tryd.func16, Tryd.ntmps16
    go_wp2
    go_ret
    exact ⟨rfl, Below.refl _ _⟩
theorem take_nextN (l : List Nat) (k : Nat) (h : k < l.length) : l.take (k + 1) = l.take k ++ [l.getD k 0] := by
  rw [List.take_add_one, List.getD_eq_getElem?_getD, List.getElem?_eq_getElem h]
  rfl
theorem not_sameN (l m : List Nat) (k : Nat) (h : l.getD k 0 ≠ m.getD k 0) : l ≠ m := fun e => h (by rw [e])
set_option maxHeartbeats 2000000 in
set_option maxRecDepth 100000 in
theorem ints_any (l m : List Nat) (a b : Nat) (n n' c d : Nat) (w : World) (hn : n = l.length) (hn' : n' = m.length) (ha : RdN w a l) (hb : RdN w b m) (hc : n ≤ c) (hcm : c ≤ maxLen) (hd : n' ≤ d) (_hdm : d ≤ maxLen) :
    Calls Tryd.prog 11 #[.slice (some ⟨a, 0, none⟩) n c, .slice (some ⟨b, 0, none⟩) n' d] w fun e w' => e = .returned (.bool (decide (l = m))) ∧ Below w.heap.size w w' := by
  unfold maxLen at hcm _hdm
  by_cases hnm : n = n'
  · subst hnm
    have HN := Lib.hid hn
    have HN' := Lib.hid hn'
    clear hn hn'
    go_enter Tryd.func11, Tryd.ntmps11
    go_wp2
    go_loopw [5] (fun v wr => ∃ k : Nat, k ≤ n ∧ v = .int .i64 (k : Int) ∧ Below w.heap.size w wr ∧ Hid (l.take k = m.take k)) (fun v _ => n - (intOf v).toNat)
    case atStart => exact ⟨0, Nat.zero_le _, rfl, Below.refl _ _, Lib.hid rfl⟩
    case round =>
      obtain ⟨k, hk, rfl, hB, HT⟩ := hrel
      by_cases hlt : k < n
      · have hl : k < l.length := by have := HN.out; omega
        have hm : k < m.length := by have := HN'.out; omega
        have c0 := (ha.thr hB ha.1 hB.size).2 k hl
        have d0 := (hb.thr hB hb.1 hB.size).2 k hm
        obtain ⟨x, hx⟩ : ∃ x, l.getD k 0 = x := ⟨_, rfl⟩
        obtain ⟨y, hy⟩ : ∃ y, m.getD k 0 = y := ⟨_, rfl⟩
        rw [hx] at c0
        rw [hy] at d0
        obtain ⟨q, hq⟩ : ∃ q, decide (x = y) = q := ⟨_, rfl⟩
        have hE1 : ((x : Int) == (y : Int)) = q := by rw [← hq]; apply Bool.eq_iff_iff.mpr; simp; omega
        have hE2 : ((x : Int) != (y : Int)) = !q := by rw [bne, hE1]
        have HX := Lib.hid hx
        have HY := Lib.hid hy
        have HQ := Lib.hid hq
        clear hx hy hq
        have hk0 : (0 : Int) ≤ (k : Int) := by omega
        have hkn : (k : Int) < (n : Int) := by omega
        cases q
        · go_wp2_with fail
          go_region
          all_goals
            go_wp2
            go_ret
            refine ⟨?_, hB.drew⟩
            have : l ≠ m := not_sameN l m k (by rw [HX.out, HY.out]; intro e; have := HQ.out; rw [decide_eq_true e] at this; cases this)
            rw [decide_eq_false this]; rfl
        · go_wp2_with fail
          go_region
          all_goals
            go_wp2
            go_round
            case rel =>
              refine ⟨k + 1, by omega, by go_num, hB.drew, Lib.hid ?_⟩
              rw [take_nextN l k hl, take_nextN m k hm, HT.out, HX.out, HY.out, of_decide_eq_true HQ.out]
            case measure => simp [intOf]; omega
      · have hkn : k = n := by omega
        subst hkn
        go_wp2
        go_ret
        refine ⟨?_, hB⟩
        have : l = m := by
          have h1 := HT.out
          rwa [List.take_of_length_le (by have := HN.out; omega), List.take_of_length_le (by have := HN'.out; omega)] at h1
        rw [decide_eq_true this]; rfl
  · have hne : ((n : Int) == (n' : Int)) = false := by simp; omega
    have hne2 : ((n : Int) != (n' : Int)) = true := by simp; omega
    have hd : decide (l = m) = false := decide_eq_false (fun e => hnm (by rw [hn, hn', e]))
    rw [hd]
    clear hd hn hn'
    go_enter Tryd.func11, Tryd.ntmps11
    go_wp2
    go_ret
    exact ⟨rfl, Below.refl _ _⟩
end Go.Proofs.YtkgkmpelclmllaaDoor
