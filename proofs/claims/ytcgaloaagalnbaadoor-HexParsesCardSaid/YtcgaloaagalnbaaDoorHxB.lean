/-
  The walks of HexBack, HexNotes, HexParses.
-/
import Derived.Test.YtcgaloaagalnbaaDoorHxA
namespace Go.Proofs.YtcgaloaagalnbaaDoor
open Go.RowKit

theorem list_app (a b : ByteArray) : (a ++ b).data.toList = a.data.toList ++ b.data.toList := Joins.data_append a b

/-! HexBack. -/
set_option maxHeartbeats 1000000 in
theorem back_long1 (s t : ByteArray) (w : World) (hL0 : HexOk w) (hm : s.size ≤ maxLen) (hl : 3000 < s.size) : Calls Tryd.prog 7 #[.string s, .string t] w fun e w' => e = .returned (.bool true) ∧ Below w.heap.size w w' := by
  have hL := Lib.hid hL0
  clear hL0
  unfold maxLen at hm
  go_enter Tryd.func7, Tryd.ntmps7
  go_wp2_with fail
  refine (awakeH_any _ hL.out).mono ?_
  rintro e w1 ⟨rfl, hB⟩
  go_wp2_with fail
  go_ret
  exact ⟨rfl, hB⟩
set_option maxHeartbeats 1000000 in
theorem back_long2 (s t : ByteArray) (w : World) (hL0 : HexOk w) (hm : t.size ≤ maxLen) (hs : s.size ≤ 3000) (hl : 3000 < t.size) : Calls Tryd.prog 7 #[.string s, .string t] w fun e w' => e = .returned (.bool true) ∧ Below w.heap.size w w' := by
  have hL := Lib.hid hL0
  clear hL0
  unfold maxLen at hm
  go_enter Tryd.func7, Tryd.ntmps7
  go_wp2_with fail
  refine (awakeH_any _ hL.out).mono ?_
  rintro e w1 ⟨rfl, hB⟩
  go_wp2_with fail
  go_ret
  exact ⟨rfl, hB⟩
set_option maxHeartbeats 4000000 in
theorem back_walk (s t st ds tt x y u v : ByteArray) (w : World) (hL0 : HexOk w) (hs : s.size ≤ 3000) (ht : t.size ≤ 3000) (hst : st.size ≤ 6000) (hds : ds.size ≤ 120000) (htt : tt.size ≤ 6000)
    (hx : ds ++ tt = x) (hy : tt ++ ds = y) (hu : s ++ t = u) (hv : t ++ s = v) (hxs : x.size ≤ 126000) (hys : y.size ≤ 126000)
    (HS : Hid (st.data.toList = textL s.data.toList)) (HD : Hid (ds.data.toList = dumpL s.data.toList)) (HT : Hid (tt.data.toList = textL t.data.toList))
    (H1 : Hid (s.data.toList = loadL st.data.toList)) (H2 : Hid (s.data.toList = loadL ds.data.toList)) (H3 : Hid (u.data.toList = loadL x.data.toList)) (H4 : Hid (v.data.toList = loadL y.data.toList)) :
    Calls Tryd.prog 7 #[.string s, .string t] w fun e w' => e = .returned (.bool true) ∧ Below w.heap.size w w' := by
  have hL := Lib.hid hL0
  clear hL0
  go_enter Tryd.func7, Tryd.ntmps7
  go_wp2_with fail
  refine (awakeH_any _ hL.out).mono ?_
  rintro e w1 ⟨rfl, hB1⟩
  have hL1 := Lib.hid (hL.out.below hB1)
  go_wp2_with fail
  refine (textH_val s st _ (by omega) hL1.out HS.out).mono ?_
  rintro e w2 ⟨rfl, hB⟩
  have hL2 := Lib.hid (hL1.out.below hB)
  have hB2 := hB1.trans (hB.mono hB1.size)
  clear hB1 hB hL1
  go_wp2_with fail
  refine (loadH_val st s _ (by omega) hL2.out H1.out).mono ?_
  rintro e w3 ⟨rfl, hB⟩
  have hL3 := Lib.hid (hL2.out.below hB)
  have hB3 := hB2.trans (hB.mono hB2.size)
  clear hB2 hB hL2
  go_wp2_with fail
  refine (dumpH_val s ds _ (by omega) hL3.out HD.out).mono ?_
  rintro e w4 ⟨rfl, hB⟩
  have hL4 := Lib.hid (hL3.out.below hB)
  have hB4 := hB3.trans (hB.mono hB3.size)
  clear hB3 hB hL3
  go_wp2_with fail
  refine (loadH_val ds s _ (by omega) hL4.out H2.out).mono ?_
  rintro e w5 ⟨rfl, hB⟩
  have hL5 := Lib.hid (hL4.out.below hB)
  have hB5 := hB4.trans (hB.mono hB4.size)
  clear hB4 hB hL4
  go_wp2_with fail
  refine (dumpH_val s ds _ (by omega) hL5.out HD.out).mono ?_
  rintro e w6 ⟨rfl, hB⟩
  have hL6 := Lib.hid (hL5.out.below hB)
  have hB6 := hB5.trans (hB.mono hB5.size)
  clear hB5 hB hL5
  go_wp2_with fail
  refine (textH_val t tt _ (by omega) hL6.out HT.out).mono ?_
  rintro e w7 ⟨rfl, hB⟩
  have hL7 := Lib.hid (hL6.out.below hB)
  have hB7 := hB6.trans (hB.mono hB6.size)
  clear hB6 hB hL6
  go_wp2_with fail
  refine (loadH_val x u _ (by omega) hL7.out H3.out).mono ?_
  rintro e w8 ⟨rfl, hB⟩
  have hL8 := Lib.hid (hL7.out.below hB)
  have hB8 := hB7.trans (hB.mono hB7.size)
  clear hB7 hB hL7
  go_wp2_with fail
  refine (textH_val t tt _ (by omega) hL8.out HT.out).mono ?_
  rintro e w9 ⟨rfl, hB⟩
  have hL9 := Lib.hid (hL8.out.below hB)
  have hB9 := hB8.trans (hB.mono hB8.size)
  clear hB8 hB hL8
  go_wp2_with fail
  refine (dumpH_val s ds _ (by omega) hL9.out HD.out).mono ?_
  rintro e w10 ⟨rfl, hB⟩
  have hL10 := Lib.hid (hL9.out.below hB)
  have hB10 := hB9.trans (hB.mono hB9.size)
  clear hB9 hB hL9
  go_wp2_with fail
  refine (loadH_val y v _ (by omega) hL10.out H4.out).mono ?_
  rintro e w11 ⟨rfl, hB⟩
  have hB11 := hB10.trans (hB.mono hB10.size)
  clear hB10 hB hL10
  go_wp2_with fail
  go_ret
  exact ⟨rfl, hB11⟩
theorem back_any (s t : ByteArray) (w : World) (hm : s.size ≤ maxLen) (hm' : t.size ≤ maxLen) (hL : HexOk w) : Calls Tryd.prog 7 #[.string s, .string t] w fun e w' => e = .returned (.bool true) ∧ Below w.heap.size w w' := by
  by_cases hl : 3000 < s.size
  · exact back_long1 s t w hL hm hl
  · by_cases hl' : 3000 < t.size
    · exact back_long2 s t w hL hm' (by omega) hl'
    · have e1 := mkS_list (textL s.data.toList)
      have e2 := mkS_list (dumpL s.data.toList)
      have e3 := mkS_list (textL t.data.toList)
      have l1 : (mkS (textL s.data.toList)).size ≤ 6000 := by rw [mkS_size, textL_len, len_listS]; omega
      have l2 : (mkS (dumpL s.data.toList)).size ≤ 120000 := by
        have := len_listS s
        have := dump_len s.data.toList 0 (by omega)
        rw [mkS_size]
        show (dpF 0 s.data.toList).length ≤ _
        omega
      have l3 : (mkS (textL t.data.toList)).size ≤ 6000 := by rw [mkS_size, textL_len, len_listS]; omega
      refine back_walk s t (mkS (textL s.data.toList)) (mkS (dumpL s.data.toList)) (mkS (textL t.data.toList)) _ _ _ _ w hL (by omega) (by omega) l1 l2 l3 rfl rfl rfl rfl ?_ ?_ e1 e2 e3 ?_ ?_ ?_ ?_
      · rw [ByteArray.size_append]; omega
      · rw [ByteArray.size_append]; omega
      · show _ = _
        rw [e1, load_text]
      · show _ = _
        rw [e2, load_dump]
      · show _ = _
        rw [list_app, list_app, e2, e3, load_dump_text]
      · show _ = _
        rw [list_app, list_app, e2, e3, load_text_dump]

/-! HexParses. -/
set_option maxHeartbeats 1000000 in
theorem parses_long (s : ByteArray) (w : World) (hL0 : HexOk w) (hm : s.size ≤ maxLen) (hl : 3000 < s.size) : Calls Tryd.prog 9 #[.string s] w fun e w' => e = .returned (.bool true) ∧ Below w.heap.size w w' := by
  have hL := Lib.hid hL0
  clear hL0
  unfold maxLen at hm
  go_enter Tryd.func9, Tryd.ntmps9
  go_wp2_with fail
  refine (awakeH_any _ hL.out).mono ?_
  rintro e w1 ⟨rfl, hB⟩
  go_wp2_with fail
  go_ret
  exact ⟨rfl, hB⟩
set_option maxHeartbeats 2000000 in
theorem parses_bad (t s l : ByteArray) (i : Int) (w : World) (hL0 : HexOk w) (ht : t.size ≤ 3000) (hl : l.size ≤ t.size / 2) (HP : Hid (s.data.toList = pV t.data.toList ∧ i = pI t.data.toList ∧ (3 : Int) = pE t.data.toList))
    (HLL : Hid (l.data.toList = loadL t.data.toList)) : Calls Tryd.prog 9 #[.string t] w fun e w' => e = .returned (.bool true) ∧ Below w.heap.size w w' := by
  have hL := Lib.hid hL0
  clear hL0
  have hl2 : (l.size : Int) ≤ (t.size : Int) / 2 := by omega
  clear hl
  go_enter Tryd.func9, Tryd.ntmps9
  go_wp2_with fail
  refine (awakeH_any _ hL.out).mono ?_
  rintro e w1 ⟨rfl, hB⟩
  have hL1 := Lib.hid (hL.out.below hB)
  go_wp2_with fail
  refine (parseH_val t s i 3 _ (by omega) hL1.out HP.out).mono ?_
  rintro e w2 ⟨rfl, hB2⟩
  have hL2 := Lib.hid (hL1.out.below hB2)
  go_wp2_with fail
  refine (loadH_val t l _ (by omega) hL2.out HLL.out).mono ?_
  rintro e w3 ⟨rfl, hB3⟩
  have hW : Below w.heap.size w w3 := hB.trans ((hB2.trans (hB3.mono hB2.size)).mono hB.size)
  clear hB hB2 hB3
  go_wp2_with fail
  go_ret
  exact ⟨rfl, hW⟩
set_option maxHeartbeats 2000000 in
theorem parses_good (t l : ByteArray) (w : World) (hL0 : HexOk w) (ht : t.size ≤ 3000) (hl : l.size = t.size / 2) (HP : Hid (l.data.toList = pV t.data.toList ∧ (0 : Int) = pI t.data.toList ∧ (0 : Int) = pE t.data.toList))
    (HLL : Hid (l.data.toList = loadL t.data.toList)) : Calls Tryd.prog 9 #[.string t] w fun e w' => e = .returned (.bool true) ∧ Below w.heap.size w w' := by
  have hL := Lib.hid hL0
  clear hL0
  have hl2 : (l.size : Int) = (t.size : Int) / 2 := by omega
  clear hl
  go_enter Tryd.func9, Tryd.ntmps9
  go_wp2_with fail
  refine (awakeH_any _ hL.out).mono ?_
  rintro e w1 ⟨rfl, hB⟩
  have hL1 := Lib.hid (hL.out.below hB)
  go_wp2_with fail
  refine (parseH_val t l 0 0 _ (by omega) hL1.out HP.out).mono ?_
  rintro e w2 ⟨rfl, hB2⟩
  have hL2 := Lib.hid (hL1.out.below hB2)
  go_wp2_with fail
  refine (loadH_val t l _ (by omega) hL2.out HLL.out).mono ?_
  rintro e w3 ⟨rfl, hB3⟩
  have hW : Below w.heap.size w w3 := hB.trans ((hB2.trans (hB3.mono hB2.size)).mono hB.size)
  clear hB hB2 hB3
  go_wp2_with fail
  go_ret
  exact ⟨rfl, hW⟩
theorem parses_any (t : ByteArray) (w : World) (hm : t.size ≤ maxLen) (hL : HexOk w) : Calls Tryd.prog 9 #[.string t] w fun e w' => e = .returned (.bool true) ∧ Below w.heap.size w w' := by
  by_cases hl : 3000 < t.size
  · exact parses_long t w hL hm hl
  · have e1 := mkS_list (loadL t.data.toList)
    have hn := len_listS t
    by_cases hb : badP t.data.toList = t.data.toList.length ∧ t.data.toList.length % 2 = 0
    · have hp := parse_even hb.1 hb.2
      refine parses_good t (mkS (loadL t.data.toList)) w hL (by omega) ?_ ⟨?_, ?_, ?_⟩ e1
      · rw [mkS_size, load_all_len _ ((badP_all _).mp hb.1) hb.2, hn]
      · rw [e1, hp.1]
      · rw [hp.2.1]
      · rw [hp.2.2]
    · refine parses_bad t (mkS (pV t.data.toList)) (mkS (loadL t.data.toList)) _ w hL (by omega) ?_ ⟨mkS_list _, rfl, ?_⟩ e1
      · have := load_len t.data.toList
        rw [mkS_size]; omega
      · have := badP_le t.data.toList
        unfold pE
        rw [if_pos (by omega)]
end Go.Proofs.YtcgaloaagalnbaaDoor
