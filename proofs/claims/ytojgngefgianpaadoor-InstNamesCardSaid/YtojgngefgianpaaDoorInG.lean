/-
  The code's Right, Encode, Decode.
-/
import Derived.Test.YtojgngefgianpaaDoorInF
namespace Go.Proofs.YtojgngefgianpaaDoor
open Go.RowKit

theorem within_most (g : Bool) (n m : Int) : withinB g n m = (decide (0 ≤ n) && decide (n ≤ if g then m else 0)) := by
  unfold withinB
  cases g
  · simp only [Bool.false_eq_true, if_false, ← Bool.decide_and]
    apply decide_eq_decide.2
    omega
  · rfl
theorem not_both (o : Int) : ¬ (hasB (partsB o) 99 = true ∧ hasB (partsB o) 114 = true) := by
  by_cases h : o < 1 ∨ 27 < o
  · rw [partsB_no o h]; decide
  · rcases op_cases o (by omega) (by omega) with rfl | rfl | rfl | rfl | rfl | rfl | rfl | rfl | rfl | rfl | rfl | rfl | rfl | rfl | rfl | rfl | rfl | rfl | rfl | rfl | rfl | rfl | rfl | rfl | rfl | rfl | rfl <;> decide
theorem name_parts (o : Int) : ((partsB o).toList != [63]) = !((nameB o).toList == []) := by
  by_cases h : o < 1 ∨ 27 < o
  · rw [partsB_no o h, nameB_no o h, ByteArray.toList_eq, ByteArray.toList_eq]; rfl
  · rcases op_cases o (by omega) (by omega) with rfl | rfl | rfl | rfl | rfl | rfl | rfl | rfl | rfl | rfl | rfl | rfl | rfl | rfl | rfl | rfl | rfl | rfl | rfl | rfl | rfl | rfl | rfl | rfl | rfl | rfl | rfl <;> (rw [ByteArray.toList_eq, ByteArray.toList_eq]; rfl)
theorem right_code (o a b c : Int) : rightI o a b c = (((decide (0 ≤ a) && decide (a ≤ mostA o)) && (decide (0 ≤ b) && decide (b ≤ mostB o)) && (decide (0 ≤ c) && decide (c ≤ mostC o))) && !((nameB o).toList == [])) := by
  rw [← name_parts]
  unfold rightI
  rw [within_most, within_most, within_most]
  have h := not_both o
  unfold mostA mostB mostC
  cases h1 : hasB (partsB o) 99 <;> cases h2 : hasB (partsB o) 114
  · simp [bne, Bool.and_comm, Bool.and_assoc, Bool.and_left_comm]
  · simp [bne, Bool.and_comm, Bool.and_assoc, Bool.and_left_comm]
  · simp [bne, Bool.and_comm, Bool.and_assoc, Bool.and_left_comm]
  · exact absurd ⟨h1, h2⟩ h
def okF (x m : Int) : Bool := decide (0 ≤ x) && decide (x ≤ m)
/-- What the rounds from the j-th on tell. -/
def restR (a b c ma mb mc : Int) (s : Bool) : Nat → Bool
  | 0 => okF a ma && (okF b mb && (okF c mc && s))
  | 1 => okF b mb && (okF c mc && s)
  | 2 => okF c mc && s
  | _ => s
theorem right_rest (a b c ma mb mc : Int) (s : Bool) : (((decide (0 ≤ a) && decide (a ≤ ma)) && (decide (0 ≤ b) && decide (b ≤ mb)) && (decide (0 ≤ c) && decide (c ≤ mc))) && s) = restR a b c ma mb mc s 0 := by
  show _ = (okF a ma && (okF b mb && (okF c mc && s)))
  unfold okF
  simp only [Bool.and_assoc]
theorem okF_low {x m : Int} (h : decide (x < 0) = true) : okF x m = false := by
  unfold okF
  rw [decide_eq_false (show ¬ 0 ≤ x by have := of_decide_eq_true h; omega)]; rfl
theorem okF_high {x m : Int} (h : decide (m < x) = true) : okF x m = false := by
  unfold okF
  rw [decide_eq_false (show ¬ x ≤ m by have := of_decide_eq_true h; omega), Bool.and_false]
theorem okF_yes {x m : Int} (h : decide (x < 0) = false) (h' : decide (m < x) = false) : okF x m = true := by
  unfold okF
  rw [decide_eq_true (show 0 ≤ x by have := of_decide_eq_false h; omega), decide_eq_true (show x ≤ m by have := of_decide_eq_false h'; omega)]; rfl
theorem run_fld (a b c : Int) (w : World) : (Instr.index 43 (.agg #[.int .i64 a, .int .i64 b, .int .i64 c]) (.int .i64 0)).run Tryd.prog w = .ok (.int .i64 a) w ∧ (Instr.index 43 (.agg #[.int .i64 a, .int .i64 b, .int .i64 c]) (.int .i64 1)).run Tryd.prog w = .ok (.int .i64 b) w ∧ (Instr.index 43 (.agg #[.int .i64 a, .int .i64 b, .int .i64 c]) (.int .i64 2)).run Tryd.prog w = .ok (.int .i64 c) w := by
  have e1 := Tryd.isAgg3
  have e2 := Tryd.sizeOf3
  refine ⟨?_, ?_, ?_⟩ <;> simp [Instr.index, run_underlying Tryd.underlying43 w, asIntOf, part, go_sem, e1, e2]
theorem wraps32 (n : Int) (h₀ : 0 ≤ n) (h₁ : n < 2 ^ 32) : IntKind.u32.wrap n = n := by rw [IntKind.wrap_u32]; omega
theorem or_enc {o a b c : Int} (ho1 : 0 ≤ o) (ho2 : o ≤ 255) (ha1 : 0 ≤ a) (ha2 : a ≤ 15) (hb1 : 0 ≤ b) (hb2 : b ≤ 15) (hc1 : 0 ≤ c) (hc2 : c ≤ 65535) :
    bits .or .u32 (bits .or .u32 (bits .or .u32 (o * 16777216) (a * 1048576)) (b * 65536)) c = encI o a b c := by
  rw [bits_join .u32 32 (by decide) wraps32 24 (o * 16777216) (a * 1048576) (by omega) (by omega) (by omega) (by omega) (by omega) (by omega)]
  rw [bits_join .u32 32 (by decide) wraps32 20 (o * 16777216 + a * 1048576) (b * 65536) (by omega) (by omega) (by omega) (by omega) (by omega) (by omega)]
  rw [bits_join .u32 32 (by decide) wraps32 16 (o * 16777216 + a * 1048576 + b * 65536) c (by omega) (by omega) (by omega) (by omega) (by omega) (by omega)]
  rfl
theorem and15 (y : Int) (h0 : 0 ≤ y) (h1 : y < 4294967296) : bits .and .u32 y 15 = y % 16 := bits_mask .u32 32 (by decide) wraps32 4 (by decide) y h0 (by omega)
theorem and16 (y : Int) (h0 : 0 ≤ y) (h1 : y < 4294967296) : bits .and .u32 y 65535 = y % 65536 := bits_mask .u32 32 (by decide) wraps32 16 (by decide) y h0 (by omega)
set_option maxHeartbeats 8000000 in
set_option maxRecDepth 100000 in
theorem cright_any (o a b c : Int) (w : World) (hO : OpsOk w) : Calls Tryd.prog 12 #[.agg #[.int .i64 o, .int .i64 a, .int .i64 b, .int .i64 c]] w fun e w' => e = .returned (.bool (rightI o a b c)) ∧ Below w.heap.size w w' := by
  obtain ⟨n, hn⟩ : ∃ n, n = nameB o := ⟨_, rfl⟩
  obtain ⟨ma, hma⟩ : ∃ n, n = mostA o := ⟨_, rfl⟩
  obtain ⟨mb, hmb⟩ : ∃ n, n = mostB o := ⟨_, rfl⟩
  obtain ⟨mc, hmc⟩ : ∃ n, n = mostC o := ⟨_, rfl⟩
  have hfind := cfind_any o
  have hright := right_code o a b c
  rw [← hn, ← hma, ← hmb, ← hmc] at hfind hright
  rw [right_rest] at hright
  have HF := Lib.hid hfind
  have HR := Lib.hid hright
  clear hfind hright hn hma hmb hmc
  obtain ⟨w1, hw1⟩ : ∃ w', w.alloc (.cells #[.int .i64 o, .int .i64 a, .int .i64 b, .int .i64 c] 23) = w' := ⟨_, rfl⟩
  have hI : Box 23 w.heap.size [.int .i64 o, .int .i64 a, .int .i64 b, .int .i64 c] w1 := by rw [← hw1]; exact Box.new 23 [.int .i64 o, .int .i64 a, .int .i64 b, .int .i64 c] w
  have hD : Below w.heap.size w w1 := by rw [← hw1]; exact (Below.refl _ _).alloc (Nat.le_refl _) _
  replace hO := hO.on hD
  have hB := hD
  clear hD
  go_enter Tryd.func12, Tryd.ntmps12
  have chI0 := hI.cell (j := 0) (v := .int .i64 o) rfl
  have chI1 := hI.cell (j := 1) (v := .int .i64 a) rfl
  have chI2 := hI.cell (j := 2) (v := .int .i64 b) rfl
  have chI3 := hI.cell (j := 3) (v := .int .i64 c) rfl
  go_wp2_with fail
  clear hw1 chI0 chI1 chI2 chI3
  refine (HF.out w1 hO).mono ?_
  rintro e w2 ⟨rfl, hD⟩
  replace hI := hI.on hD
  replace hO := hO.on hD
  replace hB := hB.trans (hD.mono hB.size)
  clear hD
  obtain ⟨w3, hw3⟩ : ∃ w', w2.alloc (.cells #[.string n, .int .i64 ma, .int .i64 mb, .int .i64 mc] 45) = w' := ⟨_, rfl⟩
  have hP : Box 45 w2.heap.size [.string n, .int .i64 ma, .int .i64 mb, .int .i64 mc] w3 := by rw [← hw3]; exact Box.new 45 [.string n, .int .i64 ma, .int .i64 mb, .int .i64 mc] w2
  have hD : Below w2.heap.size w2 w3 := by rw [← hw3]; exact (Below.refl _ _).alloc (Nat.le_refl _) _
  replace hI := hI.on hD
  replace hO := hO.on hD
  replace hB := hB.trans (hD.mono hB.size)
  clear hD
  have chI0 := hI.cell (j := 0) (v := .int .i64 o) rfl
  have chI1 := hI.cell (j := 1) (v := .int .i64 a) rfl
  have chI2 := hI.cell (j := 2) (v := .int .i64 b) rfl
  have chI3 := hI.cell (j := 3) (v := .int .i64 c) rfl
  have chP0 := hP.cell (j := 0) (v := .string n) rfl
  have chP1 := hP.cell (j := 1) (v := .int .i64 ma) rfl
  have chP2 := hP.cell (j := 2) (v := .int .i64 mb) rfl
  have chP3 := hP.cell (j := 3) (v := .int .i64 mc) rfl
  go_wp2_with fail
  clear hw3 chI0 chI1 chI2 chI3 chP0 chP1 chP2 chP3
  refine (cfieldsOf_any o a b c w3).mono ?_
  rintro e w4 ⟨rfl, hD⟩
  replace hI := hI.on hD
  replace hP := hP.on hD
  replace hO := hO.on hD
  replace hB := hB.trans (hD.mono hB.size)
  clear hD
  have chP0 := hP.cell (j := 0) (v := .string n) rfl
  have chP1 := hP.cell (j := 1) (v := .int .i64 ma) rfl
  have chP2 := hP.cell (j := 2) (v := .int .i64 mb) rfl
  have chP3 := hP.cell (j := 3) (v := .int .i64 mc) rfl
  go_wp2_with fail
  clear hI hO
  go_loop [11] (fun i => ∃ j : Nat, j ≤ 3 ∧ i = .int .i64 (j : Int) ∧ Hid (rightI o a b c = restR a b c ma mb mc (!n.toList == []) j)) (fun i => 3 - (intOf i).toNat)
  case atStart => exact ⟨0, by omega, rfl, HR⟩
  case round =>
    obtain ⟨j, hj, rfl, HJ⟩ := hrel
    have hx0 := fun W => (run_fld a b c W).1
    have hx1 := fun W => (run_fld a b c W).2.1
    have hx2 := fun W => (run_fld a b c W).2.2
    rcases (show j = 0 ∨ j = 1 ∨ j = 2 ∨ j = 3 by omega) with rfl | rfl | rfl | rfl
    · cases hlo : decide (a < 0)
      · cases hhi : decide (ma < a)
        · have HN : Hid (rightI o a b c = restR a b c ma mb mc (!n.toList == []) 1) := by show _ = _; rw [HJ.out]; show (okF a ma && _) = _; rw [okF_yes hlo hhi, Bool.true_and]; rfl
          clear HJ
          go_wp2_with fail
          go_round
          case rel => exact ⟨1, by omega, rfl, HN⟩
          case measure => simp [intOf]
        · have HN : Hid (rightI o a b c = false) := by show _ = _; rw [HJ.out]; show (okF a ma && _) = _; rw [okF_high hhi]; rfl
          clear HJ
          go_wp2_with fail
          refine bodyPost_ret (v := .bool false) (by simp [results, Tryd.results12, go_sem]) rfl ⟨by rw [HN.out], hB⟩
      · have HN : Hid (rightI o a b c = false) := by show _ = _; rw [HJ.out]; show (okF a ma && _) = _; rw [okF_low hlo]; rfl
        clear HJ
        go_wp2_with fail
        refine bodyPost_ret (v := .bool false) (by simp [results, Tryd.results12, go_sem]) rfl ⟨by rw [HN.out], hB⟩
    · cases hlo : decide (b < 0)
      · cases hhi : decide (mb < b)
        · have HN : Hid (rightI o a b c = restR a b c ma mb mc (!n.toList == []) 2) := by show _ = _; rw [HJ.out]; show (okF b mb && _) = _; rw [okF_yes hlo hhi, Bool.true_and]; rfl
          clear HJ
          go_wp2_with fail
          go_round
          case rel => exact ⟨2, by omega, rfl, HN⟩
          case measure => simp [intOf]
        · have HN : Hid (rightI o a b c = false) := by show _ = _; rw [HJ.out]; show (okF b mb && _) = _; rw [okF_high hhi]; rfl
          clear HJ
          go_wp2_with fail
          refine bodyPost_ret (v := .bool false) (by simp [results, Tryd.results12, go_sem]) rfl ⟨by rw [HN.out], hB⟩
      · have HN : Hid (rightI o a b c = false) := by show _ = _; rw [HJ.out]; show (okF b mb && _) = _; rw [okF_low hlo]; rfl
        clear HJ
        go_wp2_with fail
        refine bodyPost_ret (v := .bool false) (by simp [results, Tryd.results12, go_sem]) rfl ⟨by rw [HN.out], hB⟩
    · cases hlo : decide (c < 0)
      · cases hhi : decide (mc < c)
        · have HN : Hid (rightI o a b c = restR a b c ma mb mc (!n.toList == []) 3) := by show _ = _; rw [HJ.out]; show (okF c mc && _) = _; rw [okF_yes hlo hhi, Bool.true_and]; rfl
          clear HJ
          go_wp2_with fail
          go_round
          case rel => exact ⟨3, by omega, rfl, HN⟩
          case measure => simp [intOf]
        · have HN : Hid (rightI o a b c = false) := by show _ = _; rw [HJ.out]; show (okF c mc && _) = _; rw [okF_high hhi]; rfl
          clear HJ
          go_wp2_with fail
          refine bodyPost_ret (v := .bool false) (by simp [results, Tryd.results12, go_sem]) rfl ⟨by rw [HN.out], hB⟩
      · have HN : Hid (rightI o a b c = false) := by show _ = _; rw [HJ.out]; show (okF c mc && _) = _; rw [okF_low hlo]; rfl
        clear HJ
        go_wp2_with fail
        refine bodyPost_ret (v := .bool false) (by simp [results, Tryd.results12, go_sem]) rfl ⟨by rw [HN.out], hB⟩
    · have HN : Hid (rightI o a b c = (!n.toList == [])) := by show _ = _; rw [HJ.out]; rfl
      clear HJ
      go_wp2_with fail
      have HE : (n.toList == []) = n.toList.isEmpty := by cases n.toList <;> rfl
      refine bodyPost_ret (v := .bool (!n.toList.isEmpty)) (by simp [results, Tryd.results12, go_sem]) rfl ⟨by rw [HN.out, HE], hB⟩
theorem cright_val (o a b c : Int) (g : Bool) (w : World) (hO : OpsOk w) (hg : rightI o a b c = g) : Calls Tryd.prog 12 #[.agg #[.int .i64 o, .int .i64 a, .int .i64 b, .int .i64 c]] w fun e w' => e = .returned (.bool g) ∧ Below w.heap.size w w' := by
  subst hg; exact cright_any o a b c w hO
set_option maxHeartbeats 8000000 in
set_option maxRecDepth 100000 in
theorem cencode_no (o a b c : Int) (w : World) (hO : OpsOk w) (h : rightI o a b c = false) : Calls Tryd.prog 10 #[.agg #[.int .i64 o, .int .i64 a, .int .i64 b, .int .i64 c]] w fun e w' => e = .returned (.tuple #[.int .u32 0, .int .i64 1]) ∧ Below w.heap.size w w' := by
  have H := Lib.hid h
  clear h
  obtain ⟨w1, hw1⟩ : ∃ w', w.alloc (.cells #[.int .i64 o, .int .i64 a, .int .i64 b, .int .i64 c] 23) = w' := ⟨_, rfl⟩
  have hI : Box 23 w.heap.size [.int .i64 o, .int .i64 a, .int .i64 b, .int .i64 c] w1 := by rw [← hw1]; exact Box.new 23 [.int .i64 o, .int .i64 a, .int .i64 b, .int .i64 c] w
  have hD : Below w.heap.size w w1 := by rw [← hw1]; exact (Below.refl _ _).alloc (Nat.le_refl _) _
  replace hO := hO.on hD
  have hB := hD
  clear hD
  go_enter Tryd.func10, Tryd.ntmps10
  have chI0 := hI.cell (j := 0) (v := .int .i64 o) rfl
  have chI1 := hI.cell (j := 1) (v := .int .i64 a) rfl
  have chI2 := hI.cell (j := 2) (v := .int .i64 b) rfl
  have chI3 := hI.cell (j := 3) (v := .int .i64 c) rfl
  go_wp2_with fail
  clear hw1 chI0 chI1 chI2 chI3
  refine (cright_val o a b c false w1 hO H.out).mono ?_
  rintro e w2 ⟨rfl, hD⟩
  replace hI := hI.on hD
  replace hO := hO.on hD
  replace hB := hB.trans (hD.mono hB.size)
  clear hD
  have chI0 := hI.cell (j := 0) (v := .int .i64 o) rfl
  have chI1 := hI.cell (j := 1) (v := .int .i64 a) rfl
  have chI2 := hI.cell (j := 2) (v := .int .i64 b) rfl
  have chI3 := hI.cell (j := 3) (v := .int .i64 c) rfl
  go_wp2_with fail
  clear chI0 chI1 chI2 chI3
  refine bodyPost_ret (v := .tuple #[.int .u32 0, .int .i64 1]) (by simp [results, Tryd.results10, go_sem]) rfl ⟨rfl, hB⟩
set_option maxHeartbeats 8000000 in
set_option maxRecDepth 100000 in
theorem cencode_yes (o a b c : Int) (w : World) (hO : OpsOk w) (h : rightI o a b c = true) : Calls Tryd.prog 10 #[.agg #[.int .i64 o, .int .i64 a, .int .i64 b, .int .i64 c]] w fun e w' => e = .returned (.tuple #[.int .u32 (encI o a b c), .int .i64 0]) ∧ Below w.heap.size w w' := by
  obtain ⟨ho1, ho2, ha1, ha2, hb1, hb2, hc1, hc2⟩ := right_bd h
  have H := Lib.hid h
  clear h
  obtain ⟨w1, hw1⟩ : ∃ w', w.alloc (.cells #[.int .i64 o, .int .i64 a, .int .i64 b, .int .i64 c] 23) = w' := ⟨_, rfl⟩
  have hI : Box 23 w.heap.size [.int .i64 o, .int .i64 a, .int .i64 b, .int .i64 c] w1 := by rw [← hw1]; exact Box.new 23 [.int .i64 o, .int .i64 a, .int .i64 b, .int .i64 c] w
  have hD : Below w.heap.size w w1 := by rw [← hw1]; exact (Below.refl _ _).alloc (Nat.le_refl _) _
  replace hO := hO.on hD
  have hB := hD
  clear hD
  go_enter Tryd.func10, Tryd.ntmps10
  have chI0 := hI.cell (j := 0) (v := .int .i64 o) rfl
  have chI1 := hI.cell (j := 1) (v := .int .i64 a) rfl
  have chI2 := hI.cell (j := 2) (v := .int .i64 b) rfl
  have chI3 := hI.cell (j := 3) (v := .int .i64 c) rfl
  go_wp2_with fail
  clear hw1 chI0 chI1 chI2 chI3
  refine (cright_val o a b c true w1 hO H.out).mono ?_
  rintro e w2 ⟨rfl, hD⟩
  replace hI := hI.on hD
  replace hO := hO.on hD
  replace hB := hB.trans (hD.mono hB.size)
  clear hD
  have chI0 := hI.cell (j := 0) (v := .int .i64 o) rfl
  have chI1 := hI.cell (j := 1) (v := .int .i64 a) rfl
  have chI2 := hI.cell (j := 2) (v := .int .i64 b) rfl
  have chI3 := hI.cell (j := 3) (v := .int .i64 c) rfl
  go_wp2_with fail
  refine bodyPost_ret (v := .tuple #[.int .u32 (bits .or .u32 (bits .or .u32 (bits .or .u32 (o * 16777216) (a * 1048576)) (b * 65536)) c), .int .i64 0]) (by simp [results, Tryd.results10, go_sem]) rfl ⟨by rw [or_enc (by omega) (by omega) ha1 ha2 hb1 hb2 hc1 hc2], hB⟩
set_option maxHeartbeats 8000000 in
set_option maxRecDepth 100000 in
theorem cdecode_no (x : Int) (w : World) (hO : OpsOk w) (hx0 : 0 ≤ x) (hx1 : x < 4294967296) (h : rightI (x / 16777216) (x / 1048576 % 16) (x / 65536 % 16) (x % 65536) = false) : Calls Tryd.prog 16 #[.int .u32 x] w fun e w' => e = .returned (.tuple #[.agg #[.int .i64 0, .int .i64 0, .int .i64 0, .int .i64 0], .int .i64 7]) ∧ Below w.heap.size w w' := by
  have H := Lib.hid h
  clear h
  have m1 := and15 (x / 1048576) (by omega) (by omega)
  have m2 := and15 (x / 65536) (by omega) (by omega)
  have m3 := and16 x hx0 hx1
  obtain ⟨w1, hw1⟩ : ∃ w', w.alloc (.cells #[.int .i64 0, .int .i64 0, .int .i64 0, .int .i64 0] 23) = w' := ⟨_, rfl⟩
  have hR : Box 23 w.heap.size [.int .i64 0, .int .i64 0, .int .i64 0, .int .i64 0] w1 := by rw [← hw1]; exact Box.new 23 [.int .i64 0, .int .i64 0, .int .i64 0, .int .i64 0] w
  have hD : Below w.heap.size w w1 := by rw [← hw1]; exact (Below.refl _ _).alloc (Nat.le_refl _) _
  replace hO := hO.on hD
  have hB := hD
  clear hD
  obtain ⟨w2, hw2⟩ : ∃ w', w1.alloc (.cells #[.int .i64 (x / 16777216), .int .i64 (x / 1048576 % 16), .int .i64 (x / 65536 % 16), .int .i64 (x % 65536)] 23) = w' := ⟨_, rfl⟩
  have hI : Box 23 w1.heap.size [.int .i64 (x / 16777216), .int .i64 (x / 1048576 % 16), .int .i64 (x / 65536 % 16), .int .i64 (x % 65536)] w2 := by rw [← hw2]; exact Box.new 23 [.int .i64 (x / 16777216), .int .i64 (x / 1048576 % 16), .int .i64 (x / 65536 % 16), .int .i64 (x % 65536)] w1
  have hD : Below w1.heap.size w1 w2 := by rw [← hw2]; exact (Below.refl _ _).alloc (Nat.le_refl _) _
  replace hR := hR.on hD
  replace hO := hO.on hD
  replace hB := hB.trans (hD.mono hB.size)
  clear hD
  go_enter Tryd.func16, Tryd.ntmps16
  have chI0 := hI.cell (j := 0) (v := .int .i64 (x / 16777216)) rfl
  have chI1 := hI.cell (j := 1) (v := .int .i64 (x / 1048576 % 16)) rfl
  have chI2 := hI.cell (j := 2) (v := .int .i64 (x / 65536 % 16)) rfl
  have chI3 := hI.cell (j := 3) (v := .int .i64 (x % 65536)) rfl
  go_wp2_with fail
  clear hw1 hw2 chI0 chI1 chI2 chI3
  refine (cright_val (x / 16777216) (x / 1048576 % 16) (x / 65536 % 16) (x % 65536) false w2 hO H.out).mono ?_
  rintro e w3 ⟨rfl, hD⟩
  replace hR := hR.on hD
  replace hI := hI.on hD
  replace hO := hO.on hD
  replace hB := hB.trans (hD.mono hB.size)
  clear hD
  have d0 := hR.cell (j := 0) (v := .int .i64 0) rfl
  have f0 := hR.fz 0
  have d1 := hR.cell (j := 1) (v := .int .i64 0) rfl
  have f1 := hR.fz 1
  have d2 := hR.cell (j := 2) (v := .int .i64 0) rfl
  have f2 := hR.fz 2
  have d3 := hR.cell (j := 3) (v := .int .i64 0) rfl
  have f3 := hR.fz 3
  have hF : Box 23 (w.heap.size) [.int .i64 0, .int .i64 0, .int .i64 0, .int .i64 0] ((((w3.setCell ⟨w.heap.size, 0, none⟩ (.int .i64 0)).setCell ⟨w.heap.size, 1, none⟩ (.int .i64 0)).setCell ⟨w.heap.size, 2, none⟩ (.int .i64 0)).setCell ⟨w.heap.size, 3, none⟩ (.int .i64 0)) := ((((hR.set 0 (.int .i64 0)).set 1 (.int .i64 0)).set 2 (.int .i64 0)).set 3 (.int .i64 0))
  have hBf := ((((hB.setCell (p := ⟨w.heap.size, 0, none⟩) (Nat.le_refl _) (.int .i64 0)).setCell (p := ⟨w.heap.size, 1, none⟩) (Nat.le_refl _) (.int .i64 0)).setCell (p := ⟨w.heap.size, 2, none⟩) (Nat.le_refl _) (.int .i64 0)).setCell (p := ⟨w.heap.size, 3, none⟩) (Nat.le_refl _) (.int .i64 0))
  have chI0 := hI.cell (j := 0) (v := .int .i64 (x / 16777216)) rfl
  have chI1 := hI.cell (j := 1) (v := .int .i64 (x / 1048576 % 16)) rfl
  have chI2 := hI.cell (j := 2) (v := .int .i64 (x / 65536 % 16)) rfl
  have chI3 := hI.cell (j := 3) (v := .int .i64 (x % 65536)) rfl
  go_wp2_with fail
  clear chI0 chI1 chI2 chI3
  clear d0 f0 d1 f1 d2 f2 d3 f3
  generalize ((((w3.setCell ⟨w.heap.size, 0, none⟩ (.int .i64 0)).setCell ⟨w.heap.size, 1, none⟩ (.int .i64 0)).setCell ⟨w.heap.size, 2, none⟩ (.int .i64 0)).setCell ⟨w.heap.size, 3, none⟩ (.int .i64 0)) = wf at *
  have r0 := hF.cell (j := 0) (v := .int .i64 0) rfl
  have r1 := hF.cell (j := 1) (v := .int .i64 0) rfl
  have r2 := hF.cell (j := 2) (v := .int .i64 0) rfl
  have r3 := hF.cell (j := 3) (v := .int .i64 0) rfl
  refine bodyPost_ret (v := .tuple #[.agg #[.int .i64 0, .int .i64 0, .int .i64 0, .int .i64 0], .int .i64 7]) (by simp [results, Tryd.results16, go_sem, r0, r1, r2, r3]) rfl ⟨rfl, hBf⟩
set_option maxHeartbeats 8000000 in
set_option maxRecDepth 100000 in
theorem cdecode_yes (x : Int) (w : World) (hO : OpsOk w) (hx0 : 0 ≤ x) (hx1 : x < 4294967296) (h : rightI (x / 16777216) (x / 1048576 % 16) (x / 65536 % 16) (x % 65536) = true) : Calls Tryd.prog 16 #[.int .u32 x] w fun e w' => e = .returned (.tuple #[.agg #[.int .i64 (x / 16777216), .int .i64 (x / 1048576 % 16), .int .i64 (x / 65536 % 16), .int .i64 (x % 65536)], .int .i64 0]) ∧ Below w.heap.size w w' := by
  have H := Lib.hid h
  clear h
  have m1 := and15 (x / 1048576) (by omega) (by omega)
  have m2 := and15 (x / 65536) (by omega) (by omega)
  have m3 := and16 x hx0 hx1
  obtain ⟨w1, hw1⟩ : ∃ w', w.alloc (.cells #[.int .i64 0, .int .i64 0, .int .i64 0, .int .i64 0] 23) = w' := ⟨_, rfl⟩
  have hR : Box 23 w.heap.size [.int .i64 0, .int .i64 0, .int .i64 0, .int .i64 0] w1 := by rw [← hw1]; exact Box.new 23 [.int .i64 0, .int .i64 0, .int .i64 0, .int .i64 0] w
  have hD : Below w.heap.size w w1 := by rw [← hw1]; exact (Below.refl _ _).alloc (Nat.le_refl _) _
  replace hO := hO.on hD
  have hB := hD
  clear hD
  obtain ⟨w2, hw2⟩ : ∃ w', w1.alloc (.cells #[.int .i64 (x / 16777216), .int .i64 (x / 1048576 % 16), .int .i64 (x / 65536 % 16), .int .i64 (x % 65536)] 23) = w' := ⟨_, rfl⟩
  have hI : Box 23 w1.heap.size [.int .i64 (x / 16777216), .int .i64 (x / 1048576 % 16), .int .i64 (x / 65536 % 16), .int .i64 (x % 65536)] w2 := by rw [← hw2]; exact Box.new 23 [.int .i64 (x / 16777216), .int .i64 (x / 1048576 % 16), .int .i64 (x / 65536 % 16), .int .i64 (x % 65536)] w1
  have hD : Below w1.heap.size w1 w2 := by rw [← hw2]; exact (Below.refl _ _).alloc (Nat.le_refl _) _
  replace hR := hR.on hD
  replace hO := hO.on hD
  replace hB := hB.trans (hD.mono hB.size)
  clear hD
  go_enter Tryd.func16, Tryd.ntmps16
  have chI0 := hI.cell (j := 0) (v := .int .i64 (x / 16777216)) rfl
  have chI1 := hI.cell (j := 1) (v := .int .i64 (x / 1048576 % 16)) rfl
  have chI2 := hI.cell (j := 2) (v := .int .i64 (x / 65536 % 16)) rfl
  have chI3 := hI.cell (j := 3) (v := .int .i64 (x % 65536)) rfl
  go_wp2_with fail
  clear hw1 hw2 chI0 chI1 chI2 chI3
  refine (cright_val (x / 16777216) (x / 1048576 % 16) (x / 65536 % 16) (x % 65536) true w2 hO H.out).mono ?_
  rintro e w3 ⟨rfl, hD⟩
  replace hR := hR.on hD
  replace hI := hI.on hD
  replace hO := hO.on hD
  replace hB := hB.trans (hD.mono hB.size)
  clear hD
  have d0 := hR.cell (j := 0) (v := .int .i64 0) rfl
  have f0 := hR.fz 0
  have d1 := hR.cell (j := 1) (v := .int .i64 0) rfl
  have f1 := hR.fz 1
  have d2 := hR.cell (j := 2) (v := .int .i64 0) rfl
  have f2 := hR.fz 2
  have d3 := hR.cell (j := 3) (v := .int .i64 0) rfl
  have f3 := hR.fz 3
  have hF : Box 23 (w.heap.size) [.int .i64 (x / 16777216), .int .i64 (x / 1048576 % 16), .int .i64 (x / 65536 % 16), .int .i64 (x % 65536)] ((((w3.setCell ⟨w.heap.size, 0, none⟩ (.int .i64 (x / 16777216))).setCell ⟨w.heap.size, 1, none⟩ (.int .i64 (x / 1048576 % 16))).setCell ⟨w.heap.size, 2, none⟩ (.int .i64 (x / 65536 % 16))).setCell ⟨w.heap.size, 3, none⟩ (.int .i64 (x % 65536))) := ((((hR.set 0 (.int .i64 (x / 16777216))).set 1 (.int .i64 (x / 1048576 % 16))).set 2 (.int .i64 (x / 65536 % 16))).set 3 (.int .i64 (x % 65536)))
  have hBf := ((((hB.setCell (p := ⟨w.heap.size, 0, none⟩) (Nat.le_refl _) (.int .i64 (x / 16777216))).setCell (p := ⟨w.heap.size, 1, none⟩) (Nat.le_refl _) (.int .i64 (x / 1048576 % 16))).setCell (p := ⟨w.heap.size, 2, none⟩) (Nat.le_refl _) (.int .i64 (x / 65536 % 16))).setCell (p := ⟨w.heap.size, 3, none⟩) (Nat.le_refl _) (.int .i64 (x % 65536)))
  have chI0 := hI.cell (j := 0) (v := .int .i64 (x / 16777216)) rfl
  have chI1 := hI.cell (j := 1) (v := .int .i64 (x / 1048576 % 16)) rfl
  have chI2 := hI.cell (j := 2) (v := .int .i64 (x / 65536 % 16)) rfl
  have chI3 := hI.cell (j := 3) (v := .int .i64 (x % 65536)) rfl
  go_wp2_with fail
  clear chI0 chI1 chI2 chI3
  clear d0 f0 d1 f1 d2 f2 d3 f3
  generalize ((((w3.setCell ⟨w.heap.size, 0, none⟩ (.int .i64 (x / 16777216))).setCell ⟨w.heap.size, 1, none⟩ (.int .i64 (x / 1048576 % 16))).setCell ⟨w.heap.size, 2, none⟩ (.int .i64 (x / 65536 % 16))).setCell ⟨w.heap.size, 3, none⟩ (.int .i64 (x % 65536))) = wf at *
  have r0 := hF.cell (j := 0) (v := .int .i64 (x / 16777216)) rfl
  have r1 := hF.cell (j := 1) (v := .int .i64 (x / 1048576 % 16)) rfl
  have r2 := hF.cell (j := 2) (v := .int .i64 (x / 65536 % 16)) rfl
  have r3 := hF.cell (j := 3) (v := .int .i64 (x % 65536)) rfl
  refine bodyPost_ret (v := .tuple #[.agg #[.int .i64 (x / 16777216), .int .i64 (x / 1048576 % 16), .int .i64 (x / 65536 % 16), .int .i64 (x % 65536)], .int .i64 0]) (by simp [results, Tryd.results16, go_sem, r0, r1, r2, r3]) rfl ⟨rfl, hBf⟩
end Go.Proofs.YtojgngefgianpaaDoor
