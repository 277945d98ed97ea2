/-
  InstFields: the walk (written by gen_inP.py).
-/
import Derived.Test.YtojgngefgianpaaDoorInO
import Derived.Test.YtojgngefgianpaaDoorBoth
namespace Go.Proofs.YtojgngefgianpaaDoor
open Go.RowKit

theorem rxor_any (x y : Nat) (w : World) (hx : x < 4294967296) (hy : y < 4294967296) : Calls Tryd.prog 22 #[.int .i64 11, .int .u32 (x : Int), .int .u32 (y : Int)] w fun e w' => e = .returned (.tuple #[.int .u32 ((x ^^^ y : Nat) : Int), .int .i64 0]) ∧ Below w.heap.size w w' := by
  have HC := fun w => both_any 11 (x : Int) (y : Int) w (by omega) (by omega) (by omega) (by omega) (Or.inr (Or.inr rfl))
  have e1 : app 11 (x : Int) (y : Int) = ((x ^^^ y : Nat) : Int) := bits_xor_nat x y hx hy
  rw [e1] at HC
  generalize x ^^^ y = z at *
  have HC' := Lib.hid HC
  clear HC e1
  go_enter Tryd.func22, Tryd.ntmps22
  go_wp2_with (go_at_call 32; refine (HC'.out _).mono ?_; rintro e w1 ⟨rfl, hB⟩)
  go_ret2
  exact ⟨rfl, hB⟩
theorem pow_int (d y : Nat) (hd : d < 24) (hy : 2 ^ d = y) : (2 : Int) ^ d % 4294967296 = (y : Int) ∧ y < 4294967296 := by
  have h1 : 2 ^ d < 2 ^ 32 := Nat.pow_lt_pow_right (by decide) (show d < 32 by omega)
  have h2 : ((2 ^ d : Nat) : Int) = (2 : Int) ^ d := by simp
  rw [← h2, hy]
  rw [hy] at h1
  omega
theorem th_facts (d : Nat) (c : Int) : ((c == 97) = true → thF d c = decide ((20 : Int) ≤ (d : Int))) ∧ ((c == 97) = false → (c == 98) = true → thF d c = (decide ((16 : Int) ≤ (d : Int)) && decide ((d : Int) < 20))) ∧
    ((c == 97) = false → (c == 98) = false → (c == 99) = true → thF d c = decide ((d : Int) < 16)) ∧ ((c == 97) = false → (c == 98) = false → (c == 99) = false → thF d c = decide ((d : Int) < 4)) := by
  have e20 : decide (20 ≤ d) = decide ((20 : Int) ≤ (d : Int)) := decide_eq_decide.2 (by omega)
  have e16 : decide (16 ≤ d) = decide ((16 : Int) ≤ (d : Int)) := decide_eq_decide.2 (by omega)
  have l20 : decide (d < 20) = decide ((d : Int) < 20) := decide_eq_decide.2 (by omega)
  have l16 : decide (d < 16) = decide ((d : Int) < 16) := decide_eq_decide.2 (by omega)
  have l4 : decide (d < 4) = decide ((d : Int) < 4) := decide_eq_decide.2 (by omega)
  refine ⟨fun h1 => ?_, fun h1 h2 => ?_, fun h1 h2 h3 => ?_, fun h1 h2 h3 => ?_⟩
  · have := eq_of_beq h1
    subst this; exact e20
  · have := eq_of_beq h2
    subst this; rw [← e16, ← l20]; rfl
  · have := eq_of_beq h3
    subst this; exact l16
  · unfold thF
    rw [if_neg (beq_eq_false_iff_ne.1 h1), if_neg (beq_eq_false_iff_ne.1 h2), if_neg (beq_eq_false_iff_ne.1 h3)]; exact l4
theorem cdecode_is (z : Nat) (g : Bool) (w : World) (hO : OpsOk w) (hz : z < 4294967296) (h : rightI ((z : Int) / 16777216) ((z : Int) / 1048576 % 16) ((z : Int) / 65536 % 16) ((z : Int) % 65536) = g) : Calls Tryd.prog 16 #[.int .u32 (z : Int)] w fun e w' => (∃ o a b c : Int, e = .returned (.tuple #[.agg #[.int .i64 o, .int .i64 a, .int .i64 b, .int .i64 c], .int .i64 (if g then 0 else 7)])) ∧ Below w.heap.size w w' := by
  cases g
  · exact (cdecode_no (z : Int) w hO (by omega) (by omega) h).mono fun e w' ⟨h1, h2⟩ => ⟨⟨_, _, _, _, h1⟩, h2⟩
  · exact (cdecode_yes (z : Int) w hO (by omega) (by omega) h).mono fun e w' ⟨h1, h2⟩ => ⟨⟨_, _, _, _, h1⟩, h2⟩
set_option maxHeartbeats 8000000 in
set_option maxRecDepth 100000 in
theorem fields_no (x : Nat) (t : Int) (w : World) (hO : OpsOk w) (hT : PowOk w) (hx : x < 4294967296) (h : rightI ((x : Int) / 16777216) ((x : Int) / 1048576 % 16) ((x : Int) / 65536 % 16) ((x : Int) % 65536) = false) : Calls Tryd.prog 7 #[.int .u32 (x : Int), .int .u8 t] w fun e w' => e = .returned (.bool true) ∧ Below w.heap.size w w' := by
  have H := Lib.hid h
  clear h
  go_enter Tryd.func7, Tryd.ntmps7
  go_wp2_with fail
  refine (alive_any w hO hT).mono ?_
  rintro e w1 ⟨rfl, hD⟩
  replace hO := hO.on hD
  replace hT := hT.on hD
  have hB := hD
  clear hD
  go_wp2_with fail
  refine (cdecode_no (x : Int) w1 hO (by omega) (by omega) H.out).mono ?_
  rintro e w2 ⟨rfl, hD⟩
  replace hO := hO.on hD
  replace hT := hT.on hD
  replace hB := hB.trans (hD.mono hB.size)
  clear hD
  obtain ⟨w3, hw3⟩ : ∃ w', w2.alloc (.cells #[.int .i64 0, .int .i64 0, .int .i64 0, .int .i64 0] 23) = w' := ⟨_, rfl⟩
  have hI : Box 23 w2.heap.size [.int .i64 0, .int .i64 0, .int .i64 0, .int .i64 0] w3 := by rw [← hw3]; exact Box.new 23 [.int .i64 0, .int .i64 0, .int .i64 0, .int .i64 0] w2
  have hD : Below w2.heap.size w2 w3 := by rw [← hw3]; exact (Below.refl _ _).alloc (Nat.le_refl _) _
  have zhI0 := hI.cell (j := 0) (v := .int .i64 0) rfl
  have yhI0 := hI.fz 0
  have zhI1 := hI.cell (j := 1) (v := .int .i64 0) rfl
  have yhI1 := hI.fz 1
  have zhI2 := hI.cell (j := 2) (v := .int .i64 0) rfl
  have yhI2 := hI.fz 2
  have zhI3 := hI.cell (j := 3) (v := .int .i64 0) rfl
  have yhI3 := hI.fz 3
  obtain ⟨w4, hw4⟩ : ∃ w', ((((w3.setCell ⟨w2.heap.size, 0, none⟩ (.int .i64 0)).setCell ⟨w2.heap.size, 1, none⟩ (.int .i64 0)).setCell ⟨w2.heap.size, 2, none⟩ (.int .i64 0)).setCell ⟨w2.heap.size, 3, none⟩ (.int .i64 0)) = w' := ⟨_, rfl⟩
  replace hI : Box 23 w2.heap.size [.int .i64 0, .int .i64 0, .int .i64 0, .int .i64 0] w4 := by rw [← hw4]; exact ((((hI.set 0 (.int .i64 0)).set 1 (.int .i64 0)).set 2 (.int .i64 0)).set 3 (.int .i64 0))
  replace hD : Below w2.heap.size w2 w4 := by rw [← hw4]; exact ((((hD.setCell (p := ⟨w2.heap.size, 0, none⟩) (Nat.le_refl _) (.int .i64 0)).setCell (p := ⟨w2.heap.size, 1, none⟩) (Nat.le_refl _) (.int .i64 0)).setCell (p := ⟨w2.heap.size, 2, none⟩) (Nat.le_refl _) (.int .i64 0)).setCell (p := ⟨w2.heap.size, 3, none⟩) (Nat.le_refl _) (.int .i64 0))
  replace hO := hO.on hD
  replace hT := hT.on hD
  replace hB := hB.trans (hD.mono hB.size)
  clear hD
  go_wp2_with fail
  clear hw3 zhI0 yhI0 zhI1 yhI1 zhI2 yhI2 zhI3 yhI3 hw4
  go_ret
  exact ⟨rfl, hB⟩
set_option maxHeartbeats 8000000 in
set_option maxRecDepth 100000 in
theorem fields_yes (x d : Nat) (t : Int) (w : World) (hO : OpsOk w) (hT : PowOk w) (hx : x < 4294967296) (hd : d < 24) (ht : 0 ≤ t) (hdt : t % 24 = (d : Int)) (h : rightI ((x : Int) / 16777216) ((x : Int) / 1048576 % 16) ((x : Int) / 65536 % 16) ((x : Int) % 65536) = true) : Calls Tryd.prog 7 #[.int .u32 (x : Int), .int .u8 t] w fun e w' => e = .returned (.bool true) ∧ Below w.heap.size w w' := by
  have H := Lib.hid h
  clear h
  have htm : t.tmod 24 = (d : Int) := by rw [Int.tmod_eq_emod_of_nonneg ht]; exact hdt
  have hw : (d : Int) % 4294967296 = (d : Int) := by omega
  clear hdt ht
  have hturn := turned_right x d hd H.out
  have hmn : min d 32 = d := by omega
  obtain ⟨y, hy⟩ : ∃ y : Nat, 2 ^ d = y := ⟨_, rfl⟩
  obtain ⟨hpw, hyl⟩ := pow_int d y hd hy
  rw [hy] at hturn
  have hzl : x ^^^ y < 4294967296 := xor_low (n := 32) hx hyl
  have hxor := fun w => rxor_any x y w hx hyl
  generalize x ^^^ y = z at hturn hzl hxor
  have HXO := Lib.hid hxor
  have hps := partsB_size ((x : Int) / 16777216)
  obtain ⟨p, hp⟩ : ∃ p, partsB ((x : Int) / 16777216) = p := ⟨_, rfl⟩
  rw [hp] at hturn hps
  have HTU := Lib.hid hturn
  have HPA := Lib.hid hp
  have HTF := Lib.hid (th_facts d)
  clear hturn hxor hp hy hd
  have m1 := and15 ((x : Int) / 1048576) (by omega) (by omega)
  have m2 := and15 ((x : Int) / 65536) (by omega) (by omega)
  have m3 := and16 (x : Int) (by omega) (by omega)
  go_enter Tryd.func7, Tryd.ntmps7
  go_wp2_with fail
  refine (alive_any w hO hT).mono ?_
  rintro e w1 ⟨rfl, hD⟩
  replace hO := hO.on hD
  replace hT := hT.on hD
  have hB := hD
  clear hD
  go_wp2_with fail
  refine (cdecode_yes (x : Int) w1 hO (by omega) (by omega) H.out).mono ?_
  rintro e w2 ⟨rfl, hD⟩
  replace hO := hO.on hD
  replace hT := hT.on hD
  replace hB := hB.trans (hD.mono hB.size)
  clear hD
  obtain ⟨w3, hw3⟩ : ∃ w', w2.alloc (.cells #[.int .i64 ((x : Int) / 16777216), .int .i64 ((x : Int) / 1048576 % 16), .int .i64 ((x : Int) / 65536 % 16), .int .i64 ((x : Int) % 65536)] 23) = w' := ⟨_, rfl⟩
  have hI : Box 23 w2.heap.size [.int .i64 ((x : Int) / 16777216), .int .i64 ((x : Int) / 1048576 % 16), .int .i64 ((x : Int) / 65536 % 16), .int .i64 ((x : Int) % 65536)] w3 := by rw [← hw3]; exact Box.new 23 [.int .i64 ((x : Int) / 16777216), .int .i64 ((x : Int) / 1048576 % 16), .int .i64 ((x : Int) / 65536 % 16), .int .i64 ((x : Int) % 65536)] w2
  have hD : Below w2.heap.size w2 w3 := by rw [← hw3]; exact (Below.refl _ _).alloc (Nat.le_refl _) _
  replace hO := hO.on hD
  replace hT := hT.on hD
  replace hB := hB.trans (hD.mono hB.size)
  clear hD
  have chI0 := hI.cell (j := 0) (v := .int .i64 ((x : Int) / 16777216)) rfl
  have chI1 := hI.cell (j := 1) (v := .int .i64 ((x : Int) / 1048576 % 16)) rfl
  have chI2 := hI.cell (j := 2) (v := .int .i64 ((x : Int) / 65536 % 16)) rfl
  have chI3 := hI.cell (j := 3) (v := .int .i64 ((x : Int) % 65536)) rfl
  go_wp2_with fail
  clear hw3 chI0 chI1 chI2 chI3
  refine (HXO.out w3).mono ?_
  rintro e w4 ⟨rfl, hD⟩
  replace hI := hI.on hD
  replace hO := hO.on hD
  replace hT := hT.on hD
  replace hB := hB.trans (hD.mono hB.size)
  clear hD
  have chI0 := hI.cell (j := 0) (v := .int .i64 ((x : Int) / 16777216)) rfl
  have chI1 := hI.cell (j := 1) (v := .int .i64 ((x : Int) / 1048576 % 16)) rfl
  have chI2 := hI.cell (j := 2) (v := .int .i64 ((x : Int) / 65536 % 16)) rfl
  have chI3 := hI.cell (j := 3) (v := .int .i64 ((x : Int) % 65536)) rfl
  go_wp2_with fail
  clear chI0 chI1 chI2 chI3
  refine (rparts_any ((x : Int) / 16777216) w4).mono ?_
  rintro e wr ⟨rfl, rfl⟩
  rw [HPA.out]
  clear hI
  go_wp2_with fail
  go_loop [11, 12] (fun tv i => ∃ (k : Nat) (tb : Bool), k ≤ p.size ∧ i = .int .i64 (k : Int) ∧ tv = .bool tb ∧ Hid (thB p d k = tb)) (fun _ i => p.size - (intOf i).toNat)
  case atStart => exact ⟨0, false, Nat.zero_le _, rfl, rfl, rfl⟩
  case round =>
    obtain ⟨k, tb, hk, rfl, rfl, HK⟩ := hrel
    by_cases hlt : k < p.size
    · have hkd : decide ((k : Int) < (p.size : Int)) = true := decide_eq_true (by omega)
      have hk0 : (0 : Int) ≤ (k : Int) := by omega
      have hk1 : (k : Int) < (p.size : Int) := by omega
      obtain ⟨t1, t2, t3, t4⟩ := HTF.out (p[k].toNat : Int)
      have hnx := thB_next p d k hlt
      generalize hq20 : decide ((20 : Int) ≤ (d : Int)) = q20 at t1
      generalize hq16 : decide ((16 : Int) ≤ (d : Int)) = q16 at t2
      generalize hr20 : decide ((d : Int) < 20) = r20 at t2
      generalize hr16 : decide ((d : Int) < 16) = r16 at t3
      generalize hr4 : decide ((d : Int) < 4) = r4 at t4
      rw [HK.out] at hnx
      cases h97 : ((p[k].toNat : Int) == 97)
      · cases h98 : ((p[k].toNat : Int) == 98)
        · cases h99 : ((p[k].toNat : Int) == 99)
          · have t4 := t4 h97 h98 h99
            rw [t4] at hnx
            have HN := Lib.hid hnx
            clear hnx HK t1 t2 t3 t4
            cases tb
            all_goals
              go_wp2_with fail
              go_round
              case rel => exact ⟨k + 1, _, by omega, by go_num, rfl, by first | exact HN.out | (show _ = _; rw [HN.out]; rfl)⟩
              case measure => simp [intOf]; omega
          · have t3 := t3 h97 h98 h99
            rw [t3] at hnx
            have HN := Lib.hid hnx
            clear hnx HK t1 t2 t3 t4
            cases tb
            all_goals
              go_wp2_with fail
              go_round
              case rel => exact ⟨k + 1, _, by omega, by go_num, rfl, by first | exact HN.out | (show _ = _; rw [HN.out]; rfl)⟩
              case measure => simp [intOf]; omega
        · have t2 := t2 h97 h98
          rw [t2] at hnx
          have HN := Lib.hid hnx
          clear hnx HK t1 t2 t3 t4
          cases tb <;> cases q16
          all_goals
            go_wp2_with fail
            go_round
            case rel => exact ⟨k + 1, _, by omega, by go_num, rfl, by first | exact HN.out | (show _ = _; rw [HN.out]; rfl)⟩
            case measure => simp [intOf]; omega
      · have t1 := t1 h97
        rw [t1] at hnx
        have HN := Lib.hid hnx
        clear hnx HK t1 t2 t3 t4
        cases tb
        all_goals
          go_wp2_with fail
          go_round
          case rel => exact ⟨k + 1, _, by omega, by go_num, rfl, by first | exact HN.out | (show _ = _; rw [HN.out]; rfl)⟩
          case measure => simp [intOf]; omega
    · have hkd : decide ((k : Int) < (p.size : Int)) = false := decide_eq_false (by omega)
      have hkn : k = p.size := by omega
      subst hkn
      have HZ : Hid (_ = tb) := HTU.out.trans HK.out
      clear HK
      go_wp2_with fail
      refine (cdecode_is z tb w4 hO hzl HZ.out).mono ?_
      rintro e w9 ⟨⟨o1, a1, b1, c1, rfl⟩, hD⟩
      have hB9 := hB.trans (hD.mono hB.size)
      have hsz9 := hB9.size
      clear hD
      cases tb
      all_goals
        go_wp2_with fail
        go_ret
        exact ⟨rfl, hB9.alloc hsz9 _⟩
theorem fields_walk (v t : Int) (w : World) (h0 : 0 ≤ v) (h1 : v < 4294967296) (ht : 0 ≤ t) (hO : OpsOk w) (hT : PowOk w) : Calls Tryd.prog 7 #[.int .u32 v, .int .u8 t] w fun e w' => e = .returned (.bool true) ∧ Below w.heap.size w w' := by
  obtain ⟨x, rfl⟩ : ∃ k : Nat, v = (k : Int) := ⟨v.toNat, by omega⟩
  cases h : rightI ((x : Int) / 16777216) ((x : Int) / 1048576 % 16) ((x : Int) / 65536 % 16) ((x : Int) % 65536)
  · exact fields_no x t w hO hT (by omega) h
  · exact fields_yes x (t % 24).toNat t w hO hT (by omega) (by omega) ht (by omega) h
end Go.Proofs.YtojgngefgianpaaDoor
