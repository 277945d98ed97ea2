/-
  The walks of HexTexts, HexReads, HexLoads, HexDumps.
-/
import Derived.Test.YtcgaloaagalnbaaDoorHxH
namespace Go.Proofs.YtcgaloaagalnbaaDoor
open Go.RowKit

/-- A text of some bytes, as a value. -/
def mkS (l : List UInt8) : ByteArray := ⟨l.toArray⟩
theorem mkS_list (l : List UInt8) : (mkS l).data.toList = l := by unfold mkS; rw [List.toList_toArray]
theorem mkS_size (l : List UInt8) : (mkS l).size = l.length := by show l.toArray.size = _; rw [List.size_toArray]

/-! What is too long is left. -/
set_option maxHeartbeats 1000000 in
theorem texts_long (s : ByteArray) (w : World) (hL0 : HexOk w) (hm : s.size ≤ maxLen) (hl : 3000 < s.size) : Calls Tryd.prog 3 #[.string s] w fun e w' => e = .returned (.bool true) ∧ Below w.heap.size w w' := by
  have hL := Lib.hid hL0
  clear hL0
  unfold maxLen at hm
  go_enter Tryd.func3, Tryd.ntmps3
  go_wp2_with fail
  refine (awakeH_any _ hL.out).mono ?_
  rintro e w1 ⟨rfl, hB⟩
  go_wp2_with fail
  go_ret
  exact ⟨rfl, hB⟩
set_option maxHeartbeats 1000000 in
theorem reads_longH (s : ByteArray) (w : World) (hL0 : HexOk w) (hm : s.size ≤ maxLen) (hl : 3000 < s.size) : Calls Tryd.prog 4 #[.string s] w fun e w' => e = .returned (.bool true) ∧ Below w.heap.size w w' := by
  have hL := Lib.hid hL0
  clear hL0
  unfold maxLen at hm
  go_enter Tryd.func4, Tryd.ntmps4
  go_wp2_with fail
  refine (awakeH_any _ hL.out).mono ?_
  rintro e w1 ⟨rfl, hB⟩
  go_wp2_with fail
  go_ret
  exact ⟨rfl, hB⟩
set_option maxHeartbeats 1000000 in
theorem loads_long (s : ByteArray) (w : World) (hL0 : HexOk w) (hm : s.size ≤ maxLen) (hl : 3000 < s.size) : Calls Tryd.prog 5 #[.string s] w fun e w' => e = .returned (.bool true) ∧ Below w.heap.size w w' := by
  have hL := Lib.hid hL0
  clear hL0
  unfold maxLen at hm
  go_enter Tryd.func5, Tryd.ntmps5
  go_wp2_with fail
  refine (awakeH_any _ hL.out).mono ?_
  rintro e w1 ⟨rfl, hB⟩
  go_wp2_with fail
  go_ret
  exact ⟨rfl, hB⟩
set_option maxHeartbeats 1000000 in
theorem dumps_long (s : ByteArray) (w : World) (hL0 : HexOk w) (hm : s.size ≤ maxLen) (hl : 3000 < s.size) : Calls Tryd.prog 6 #[.string s] w fun e w' => e = .returned (.bool true) ∧ Below w.heap.size w w' := by
  have hL := Lib.hid hL0
  clear hL0
  unfold maxLen at hm
  go_enter Tryd.func6, Tryd.ntmps6
  go_wp2_with fail
  refine (awakeH_any _ hL.out).mono ?_
  rintro e w1 ⟨rfl, hB⟩
  go_wp2_with fail
  go_ret
  exact ⟨rfl, hB⟩

/-! The rest: call by call. -/
set_option maxHeartbeats 2000000 in
theorem texts_walk (s t g : ByteArray) (w : World) (hL0 : HexOk w) (hs : s.size ≤ 3000) (ht : t.size ≤ 6000) (hg : g.size ≤ 6000) (HT : Hid (t.data.toList = textL s.data.toList))
    (HP : Hid (s.data.toList = pV t.data.toList ∧ (0 : Int) = pI t.data.toList ∧ (0 : Int) = pE t.data.toList)) (HG : Hid (g.data.toList = t.data.toList.map greatC))
    (HQ : Hid (s.data.toList = pV g.data.toList ∧ (0 : Int) = pI g.data.toList ∧ (0 : Int) = pE g.data.toList)) :
    Calls Tryd.prog 3 #[.string s] w fun e w' => e = .returned (.bool true) ∧ Below w.heap.size w w' := by
  have hL := Lib.hid hL0
  clear hL0
  go_enter Tryd.func3, Tryd.ntmps3
  go_wp2_with fail
  refine (awakeH_any _ hL.out).mono ?_
  rintro e w1 ⟨rfl, hB⟩
  have hL1 := Lib.hid (hL.out.below hB)
  go_wp2_with fail
  refine (textH_val s t _ (by omega) hL1.out HT.out).mono ?_
  rintro e w2 ⟨rfl, hB2⟩
  have hL2 := Lib.hid (hL1.out.below hB2)
  go_wp2_with fail
  refine (parseH_val t s 0 0 _ (by omega) hL2.out HP.out).mono ?_
  rintro e w3 ⟨rfl, hB3⟩
  have hL3 := Lib.hid (hL2.out.below hB3)
  go_wp2_with fail
  refine (great_any t g _ (by omega) HG.out).mono ?_
  rintro e w4 ⟨rfl, hB4⟩
  have hL4 := Lib.hid (hL3.out.below hB4)
  go_wp2_with fail
  refine (parseH_val g s 0 0 _ (by omega) hL4.out HQ.out).mono ?_
  rintro e w5 ⟨rfl, hB5⟩
  go_wp2_with fail
  refine (textR_val s t _ (by omega) HT.out).mono ?_
  rintro e w6 ⟨rfl, hB6⟩
  have hW : Below w.heap.size w w6 := hB.trans ((hB2.trans ((hB3.trans ((hB4.trans ((hB5.trans (hB6.mono hB5.size)).mono hB4.size)).mono hB3.size)).mono hB2.size)).mono hB.size)
  clear hB hB2 hB3 hB4 hB5 hB6
  go_wp2_with fail
  go_ret
  exact ⟨rfl, hW⟩
theorem texts_any (s : ByteArray) (w : World) (hm : s.size ≤ maxLen) (hL : HexOk w) : Calls Tryd.prog 3 #[.string s] w fun e w' => e = .returned (.bool true) ∧ Below w.heap.size w w' := by
  by_cases hl : 3000 < s.size
  · exact texts_long s w hL hm hl
  · have h1 := mkS_list (textL s.data.toList)
    have h2 := mkS_list ((textL s.data.toList).map greatC)
    refine texts_walk s (mkS (textL s.data.toList)) (mkS ((textL s.data.toList).map greatC)) w hL (by omega) ?_ ?_ h1 ?_ ?_ ?_
    · rw [mkS_size, textL_len, len_listH]; omega
    · rw [mkS_size, List.length_map, textL_len, len_listH]; omega
    · have := parse_textL s.data.toList
      exact ⟨by rw [h1, this.1], by rw [h1, this.2.1], by rw [h1, this.2.2]⟩
    · show _ = _
      rw [h1, h2]
    · have := parse_greatL s.data.toList
      exact ⟨by rw [h2, this.1], by rw [h2, this.2.1], by rw [h2, this.2.2]⟩

set_option maxHeartbeats 2000000 in
theorem reads_walkH (s t : ByteArray) (i f : Int) (w : World) (hL0 : HexOk w) (hs : s.size ≤ 3000) (_ht : t.size ≤ 3000) (HP : Hid (t.data.toList = pV s.data.toList ∧ i = pI s.data.toList ∧ f = pE s.data.toList)) :
    Calls Tryd.prog 4 #[.string s] w fun e w' => e = .returned (.bool true) ∧ Below w.heap.size w w' := by
  have hL := Lib.hid hL0
  clear hL0
  go_enter Tryd.func4, Tryd.ntmps4
  go_wp2_with fail
  refine (awakeH_any _ hL.out).mono ?_
  rintro e w1 ⟨rfl, hB⟩
  have hL1 := Lib.hid (hL.out.below hB)
  go_wp2_with fail
  refine (parseH_val s t i f _ (by omega) hL1.out HP.out).mono ?_
  rintro e w2 ⟨rfl, hB2⟩
  go_wp2_with fail
  refine (parseR_val s t i f _ (by omega) HP.out).mono ?_
  rintro e w3 ⟨rfl, hB3⟩
  have hW : Below w.heap.size w w3 := hB.trans ((hB2.trans (hB3.mono hB2.size)).mono hB.size)
  clear hB hB2 hB3
  go_wp2_with fail
  go_ret
  exact ⟨rfl, hW⟩
theorem reads_anyH (s : ByteArray) (w : World) (hm : s.size ≤ maxLen) (hL : HexOk w) : Calls Tryd.prog 4 #[.string s] w fun e w' => e = .returned (.bool true) ∧ Below w.heap.size w w' := by
  by_cases hl : 3000 < s.size
  · exact reads_longH s w hL hm hl
  · refine reads_walkH s (mkS (pV s.data.toList)) _ _ w hL (by omega) ?_ ⟨mkS_list _, rfl, rfl⟩
    rw [mkS_size]
    unfold pV
    have := load_len s.data.toList
    have := len_listH s
    split
    · omega
    · simp

set_option maxHeartbeats 2000000 in
theorem loads_walk (s t : ByteArray) (w : World) (hL0 : HexOk w) (hs : s.size ≤ 3000) (_ht : t.size ≤ 3000) (HP : Hid (t.data.toList = loadL s.data.toList)) :
    Calls Tryd.prog 5 #[.string s] w fun e w' => e = .returned (.bool true) ∧ Below w.heap.size w w' := by
  have hL := Lib.hid hL0
  clear hL0
  go_enter Tryd.func5, Tryd.ntmps5
  go_wp2_with fail
  refine (awakeH_any _ hL.out).mono ?_
  rintro e w1 ⟨rfl, hB⟩
  have hL1 := Lib.hid (hL.out.below hB)
  go_wp2_with fail
  refine (loadH_val s t _ (by omega) hL1.out HP.out).mono ?_
  rintro e w2 ⟨rfl, hB2⟩
  go_wp2_with fail
  refine (loadR_val s t _ (by omega) HP.out).mono ?_
  rintro e w3 ⟨rfl, hB3⟩
  have hW : Below w.heap.size w w3 := hB.trans ((hB2.trans (hB3.mono hB2.size)).mono hB.size)
  clear hB hB2 hB3
  go_wp2_with fail
  go_ret
  exact ⟨rfl, hW⟩
theorem loads_any (s : ByteArray) (w : World) (hm : s.size ≤ maxLen) (hL : HexOk w) : Calls Tryd.prog 5 #[.string s] w fun e w' => e = .returned (.bool true) ∧ Below w.heap.size w w' := by
  by_cases hl : 3000 < s.size
  · exact loads_long s w hL hm hl
  · refine loads_walk s (mkS (loadL s.data.toList)) w hL (by omega) ?_ (mkS_list _)
    rw [mkS_size]
    have := load_len s.data.toList
    have := len_listH s
    omega

theorem dump_len (l : List UInt8) (k : Nat) (h : k + l.length < 1000000) : (dpF k l).length ≤ 40 * l.length := by
  induction l generalizing k with
  | nil => simp [dpF]
  | cons c l ih =>
    have hd := dec_len (k - k % 16) (by simp at h; omega)
    have ih' := ih (k + 1) (by simp at h; omega)
    rw [dpF]
    simp only [List.length_append, List.length_cons]
    split <;> split <;> simp only [List.length_append, List.length_cons, List.length_nil] <;> omega
set_option maxHeartbeats 2000000 in
theorem dumps_walk (s t : ByteArray) (w : World) (hL0 : HexOk w) (hs : s.size ≤ 3000) (_ht : t.size ≤ 120000) (HP : Hid (t.data.toList = dumpL s.data.toList)) :
    Calls Tryd.prog 6 #[.string s] w fun e w' => e = .returned (.bool true) ∧ Below w.heap.size w w' := by
  have hL := Lib.hid hL0
  clear hL0
  go_enter Tryd.func6, Tryd.ntmps6
  go_wp2_with fail
  refine (awakeH_any _ hL.out).mono ?_
  rintro e w1 ⟨rfl, hB⟩
  have hL1 := Lib.hid (hL.out.below hB)
  go_wp2_with fail
  refine (dumpH_val s t _ (by omega) hL1.out HP.out).mono ?_
  rintro e w2 ⟨rfl, hB2⟩
  go_wp2_with fail
  refine (dumpR_val s t _ (by omega) HP.out).mono ?_
  rintro e w3 ⟨rfl, hB3⟩
  have hW : Below w.heap.size w w3 := hB.trans ((hB2.trans (hB3.mono hB2.size)).mono hB.size)
  clear hB hB2 hB3
  go_wp2_with fail
  go_ret
  exact ⟨rfl, hW⟩
theorem dumps_any (s : ByteArray) (w : World) (hm : s.size ≤ maxLen) (hL : HexOk w) : Calls Tryd.prog 6 #[.string s] w fun e w' => e = .returned (.bool true) ∧ Below w.heap.size w w' := by
  by_cases hl : 3000 < s.size
  · exact dumps_long s w hL hm hl
  · refine dumps_walk s (mkS (dumpL s.data.toList)) w hL (by omega) ?_ (mkS_list _)
    rw [mkS_size]
    have := len_listH s
    have := dump_len s.data.toList 0 (by omega)
    show (dpF 0 s.data.toList).length ≤ _
    omega
end Go.Proofs.YtcgaloaagalnbaaDoor
