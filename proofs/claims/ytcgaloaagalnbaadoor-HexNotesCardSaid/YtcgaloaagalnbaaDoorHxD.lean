/-
  The walk of HexNotes: a comment up to a line's end plays no part, nor a byte that is no digit.
-/
import Derived.Test.YtcgaloaagalnbaaDoorHxB
namespace Go.Proofs.YtcgaloaagalnbaaDoor
open Go.RowKit

set_option maxHeartbeats 1000000 in
theorem notes_long1 (a b n : ByteArray) (w : World) (hL0 : HexOk w) (hm : a.size ≤ maxLen) (hl : 1000 < a.size) : Calls Tryd.prog 8 #[.string a, .string b, .string n] w fun e w' => e = .returned (.bool true) ∧ Below w.heap.size w w' := by
  have hL := Lib.hid hL0
  clear hL0
  unfold maxLen at *
  go_enter Tryd.func8, Tryd.ntmps8
  go_wp2_with fail
  refine (awakeH_any _ hL.out).mono ?_
  rintro e w1 ⟨rfl, hB⟩
  go_wp2_with fail
  go_ret
  exact ⟨rfl, hB⟩
set_option maxHeartbeats 1000000 in
theorem notes_long2 (a b n : ByteArray) (w : World) (hL0 : HexOk w) (hm : b.size ≤ maxLen) (ha : a.size ≤ 1000) (hl : 1000 < b.size) : Calls Tryd.prog 8 #[.string a, .string b, .string n] w fun e w' => e = .returned (.bool true) ∧ Below w.heap.size w w' := by
  have hL := Lib.hid hL0
  clear hL0
  unfold maxLen at *
  go_enter Tryd.func8, Tryd.ntmps8
  go_wp2_with fail
  refine (awakeH_any _ hL.out).mono ?_
  rintro e w1 ⟨rfl, hB⟩
  go_wp2_with fail
  go_ret
  exact ⟨rfl, hB⟩
set_option maxHeartbeats 1000000 in
theorem notes_long3 (a b n : ByteArray) (w : World) (hL0 : HexOk w) (hm : n.size ≤ maxLen) (ha : a.size ≤ 1000) (hb : b.size ≤ 1000) (hl : 1000 < n.size) : Calls Tryd.prog 8 #[.string a, .string b, .string n] w fun e w' => e = .returned (.bool true) ∧ Below w.heap.size w w' := by
  have hL := Lib.hid hL0
  clear hL0
  unfold maxLen at *
  go_enter Tryd.func8, Tryd.ntmps8
  go_wp2_with fail
  refine (awakeH_any _ hL.out).mono ?_
  rintro e w1 ⟨rfl, hB⟩
  go_wp2_with fail
  go_ret
  exact ⟨rfl, hB⟩
set_option maxHeartbeats 1000000 in
theorem notes_hash (a b n : ByteArray) (w : World) (hL0 : HexOk w) (ha : a.size ≤ 1000) (hb : b.size ≤ 1000) (hn : n.size ≤ 1000) (HA : Hid (hasB 35 a.data.toList = true)) : Calls Tryd.prog 8 #[.string a, .string b, .string n] w fun e w' => e = .returned (.bool true) ∧ Below w.heap.size w w' := by
  have hL := Lib.hid hL0
  clear hL0
  go_enter Tryd.func8, Tryd.ntmps8
  go_wp2_with fail
  refine (awakeH_any _ hL.out).mono ?_
  rintro e w1 ⟨rfl, hB⟩
  go_wp2_with fail
  refine (has_any a 35 _ (by omega)).mono ?_
  rw [HA.out]
  rintro e w2 ⟨rfl, rfl⟩
  go_wp2_with fail
  go_ret
  exact ⟨rfl, hB⟩
set_option maxHeartbeats 1000000 in
theorem notes_line (a b n : ByteArray) (w : World) (hL0 : HexOk w) (ha : a.size ≤ 1000) (hb : b.size ≤ 1000) (hn : n.size ≤ 1000) (HA : Hid (hasB 35 a.data.toList = false)) (HN : Hid (hasB 10 n.data.toList = true)) : Calls Tryd.prog 8 #[.string a, .string b, .string n] w fun e w' => e = .returned (.bool true) ∧ Below w.heap.size w w' := by
  have hL := Lib.hid hL0
  clear hL0
  go_enter Tryd.func8, Tryd.ntmps8
  go_wp2_with fail
  refine (awakeH_any _ hL.out).mono ?_
  rintro e w1 ⟨rfl, hB⟩
  go_wp2_with fail
  refine (has_any a 35 _ (by omega)).mono ?_
  rw [HA.out]
  rintro e w2 ⟨rfl, rfl⟩
  go_wp2_with fail
  refine (has_any n 10 _ (by omega)).mono ?_
  rw [HN.out]
  rintro e w2 ⟨rfl, rfl⟩
  go_wp2_with fail
  go_ret
  exact ⟨rfl, hB⟩
set_option maxHeartbeats 4000000 in
theorem notes_walk (a b n x y z u r : ByteArray) (w : World) (hL0 : HexOk w) (ha : a.size ≤ 1000) (hb : b.size ≤ 1000) (hn : n.size ≤ 1000) (HA : Hid (hasB 35 a.data.toList = false)) (HN : Hid (hasB 10 n.data.toList = false))
    (hx : a ++ ⟨#[35]⟩ ++ n ++ ⟨#[10]⟩ ++ b = x) (hy : a ++ b = y) (hz : a ++ ⟨#[10]⟩ ++ b = z) (hu : a ++ ⟨#[122, 71, 45, 0]⟩ ++ b = u) (hxs : x.size ≤ 4000) (hys : y.size ≤ 4000) (hzs : z.size ≤ 4000) (hus : u.size ≤ 4000)
    (Hx : Hid (r.data.toList = loadL x.data.toList)) (Hy : Hid (r.data.toList = loadL y.data.toList)) (Hz : Hid (r.data.toList = loadL z.data.toList)) (Hu : Hid (r.data.toList = loadL u.data.toList)) :
    Calls Tryd.prog 8 #[.string a, .string b, .string n] w fun e w' => e = .returned (.bool true) ∧ Below w.heap.size w w' := by
  have hL := Lib.hid hL0
  clear hL0
  go_enter Tryd.func8, Tryd.ntmps8
  go_wp2_with fail
  refine (awakeH_any _ hL.out).mono ?_
  rintro e w1 ⟨rfl, hB1⟩
  have hL1 := Lib.hid (hL.out.below hB1)
  go_wp2_with fail
  refine (has_any a 35 _ (by omega)).mono ?_
  rw [HA.out]
  rintro e w2 ⟨rfl, rfl⟩
  go_wp2_with fail
  refine (has_any n 10 _ (by omega)).mono ?_
  rw [HN.out]
  rintro e w2 ⟨rfl, rfl⟩
  go_wp2_with fail
  refine (loadH_val x r _ (by omega) hL1.out Hx.out).mono ?_
  rintro e w2 ⟨rfl, hB⟩
  have hL2 := Lib.hid (hL1.out.below hB)
  have hB2 := hB1.trans (hB.mono hB1.size)
  clear hB1 hB hL1
  go_wp2_with fail
  refine (loadH_val y r _ (by omega) hL2.out Hy.out).mono ?_
  rintro e w3 ⟨rfl, hB⟩
  have hL3 := Lib.hid (hL2.out.below hB)
  have hB3 := hB2.trans (hB.mono hB2.size)
  clear hB2 hB hL2
  go_wp2_with fail
  refine (loadH_val z r _ (by omega) hL3.out Hz.out).mono ?_
  rintro e w4 ⟨rfl, hB⟩
  have hL4 := Lib.hid (hL3.out.below hB)
  have hB4 := hB3.trans (hB.mono hB3.size)
  clear hB3 hB hL3
  go_wp2_with fail
  refine (loadH_val y r _ (by omega) hL4.out Hy.out).mono ?_
  rintro e w5 ⟨rfl, hB⟩
  have hL5 := Lib.hid (hL4.out.below hB)
  have hB5 := hB4.trans (hB.mono hB4.size)
  clear hB4 hB hL4
  go_wp2_with fail
  refine (loadH_val u r _ (by omega) hL5.out Hu.out).mono ?_
  rintro e w6 ⟨rfl, hB⟩
  have hL6 := Lib.hid (hL5.out.below hB)
  have hB6 := hB5.trans (hB.mono hB5.size)
  clear hB5 hB hL5
  go_wp2_with fail
  refine (loadH_val y r _ (by omega) hL6.out Hy.out).mono ?_
  rintro e w7 ⟨rfl, hB⟩
  have hL7 := Lib.hid (hL6.out.below hB)
  have hB7 := hB6.trans (hB.mono hB6.size)
  clear hB6 hB hL6
  go_wp2_with fail
  go_ret
  exact ⟨rfl, hB7⟩
theorem size_one (c : UInt8) : (⟨#[c]⟩ : ByteArray).size = 1 := rfl
theorem notes_any (a b n : ByteArray) (w : World) (hma : a.size ≤ maxLen) (hmb : b.size ≤ maxLen) (hmn : n.size ≤ maxLen) (hL : HexOk w) : Calls Tryd.prog 8 #[.string a, .string b, .string n] w fun e w' => e = .returned (.bool true) ∧ Below w.heap.size w w' := by
  by_cases la : 1000 < a.size
  · exact notes_long1 a b n w hL hma la
  by_cases lb : 1000 < b.size
  · exact notes_long2 a b n w hL hmb (by omega) lb
  by_cases ln : 1000 < n.size
  · exact notes_long3 a b n w hL hmn (by omega) (by omega) ln
  cases ca : hasB 35 a.data.toList with
  | true => exact notes_hash a b n w hL (by omega) (by omega) (by omega) ca
  | false =>
    cases cn : hasB 10 n.data.toList with
    | true => exact notes_line a b n w hL (by omega) (by omega) (by omega) ca cn
    | false =>
      have fa : ∀ c ∈ a.data.toList, c.toNat ≠ 35 := fun c hc e => hasB_not ca c hc (by rw [e]; rfl)
      have fn : ∀ c ∈ n.data.toList, c.toNat ≠ 10 := fun c hc e => hasB_not cn c hc (by rw [e]; rfl)
      refine notes_walk a b n _ _ _ _ (mkS (loadL (a.data.toList ++ b.data.toList))) w hL (by omega) (by omega) (by omega) ca cn rfl rfl rfl rfl ?_ ?_ ?_ ?_ ?_ ?_ ?_ ?_
      · simp only [ByteArray.size_append, size_one]; omega
      · simp only [ByteArray.size_append]; omega
      · simp only [ByteArray.size_append, size_one]; omega
      · simp only [ByteArray.size_append, show (⟨#[122, 71, 45, 0]⟩ : ByteArray).size = 4 from rfl]; omega
      · show _ = _
        rw [mkS_list, ← load_note _ _ _ fa fn]
        simp only [list_app, List.append_assoc, List.cons_append, List.nil_append]
      · show _ = _
        rw [mkS_list, list_app]
      · show _ = _
        rw [mkS_list, ← load_line _ _ fa]
        simp only [list_app, List.append_assoc, List.cons_append, List.nil_append]
      · show _ = _
        rw [mkS_list, ← load_odd _ _ fa]
        simp only [list_app, List.append_assoc, List.cons_append, List.nil_append]
end Go.Proofs.YtcgaloaagalnbaaDoor
