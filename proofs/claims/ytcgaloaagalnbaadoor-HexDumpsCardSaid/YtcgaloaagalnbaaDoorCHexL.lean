/-
  The contracts of the code's lenient reading, and of its Parse.
-/
import Derived.Test.YtcgaloaagalnbaaDoorCHexJ
namespace Go.Proofs.YtcgaloaagalnbaaDoor
open Go.RowKit

/-- The digits that stand in no comment. -/
def bareF (nb : Bool) : List UInt8 → List UInt8
  | [] => []
  | c :: r => if noteB nb c = true ∨ dgt c = 16 then bareF (noteB nb c) r else c :: bareF (noteB nb c) r
theorem bare_digits (l : List UInt8) : ∀ nb, ∀ c ∈ bareF nb l, dgt c ≠ 16 := by
  induction l with
  | nil => intro nb c hc; cases hc
  | cons x l ih =>
    intro nb c hc
    rw [bareF] at hc
    by_cases q : noteB nb x = true ∨ dgt x = 16
    · rw [if_pos q] at hc; exact ih _ c hc
    · rw [if_neg q, List.mem_cons] at hc
      rcases hc with rfl | hc
      · exact fun e => q (Or.inr e)
      · exact ih _ c hc
theorem bare_len (l : List UInt8) : ∀ nb, (bareF nb l).length ≤ l.length := by
  induction l with
  | nil => intro nb; exact Nat.le_refl _
  | cons x l ih =>
    intro nb
    rw [bareF]
    have := ih (noteB nb x)
    split <;> simp <;> omega
theorem ld_bare (l : List UInt8) : ∀ nb h, ldF nb h l = ldF false h (bareF nb l) := by
  induction l with
  | nil => intro nb h; rfl
  | cons c l ih =>
    intro nb h
    by_cases q : noteB nb c = true ∨ dgt c = 16
    · rw [ldF, bareF, if_pos q, if_pos q]; exact ih _ _
    · have q1 : noteB nb c = false := by cases e : noteB nb c with
        | false => rfl
        | true => exact absurd (Or.inl e) q
      have q2 : dgt c ≠ 16 := fun e => q (Or.inr e)
      have q3 : ¬ (false = true ∨ dgt c = 16) := by simp [q2]
      rw [ldF, bareF, if_neg q, if_neg q, q1, ldF, note_digit c q2, if_neg q3]
      by_cases r : h = 16
      · rw [if_pos r, if_pos r]; exact ih _ _
      · rw [if_neg r, if_neg r, ih]
theorem load_bare (l : List UInt8) : loadL l = joinL (bareF false l) := by
  unfold loadL
  rw [ld_bare, join_load _ (bare_digits l false)]
def BrAt (s : ByteArray) (k : Nat) (L : List UInt8) (nb : Bool) : Prop := L.length ≤ k ∧ bareF false s.data.toList = L ++ bareF nb (s.data.toList.drop k)
theorem BrAt.skip {s : ByteArray} {k : Nat} {L : List UInt8} {nb nb' : Bool} (q : BrAt s k L nb) (hk : k < s.size) (hn : noteB nb s[k] = nb') (hs : nb' = true ∨ dgt s[k] = 16) : BrAt s (k + 1) L nb' := by
  refine ⟨by have := q.1; omega, ?_⟩
  rw [q.2, drop_one s k hk, bareF, hn, if_pos hs]
theorem BrAt.keep {s : ByteArray} {k : Nat} {L : List UInt8} {nb : Bool} (q : BrAt s k L nb) (hk : k < s.size) (hn : noteB nb s[k] = false) (hd : dgt s[k] ≠ 16) : BrAt s (k + 1) (L ++ [s[k]]) false := by
  refine ⟨by rw [List.length_append, List.length_singleton]; have := q.1; omega, ?_⟩
  rw [q.2, drop_one s k hk, bareF, hn, if_neg (by simp [hd])]
  simp
theorem BrAt.last {s : ByteArray} {L : List UInt8} {nb : Bool} (q : BrAt s s.size L nb) : bareF false s.data.toList = L := by
  rw [q.2, List.drop_eq_nil_of_le (by rw [len_listH]; exact Nat.le_refl _)]; simp [bareF]
theorem push_cells (L : List UInt8) (c : UInt8) : Lib.byteCells L ++ [.int .u8 (c.toNat : Int)] = Lib.byteCells (L ++ [c]) := by simp [Lib.byteCells]

set_option maxHeartbeats 1000000 in
theorem bare_any (s : ByteArray) (w : World) (hs : s.size ≤ 1000000) (hL0 : HexOk w) :
    Calls Tryd.prog 28 #[.string s] w fun e w' => e = .returned (.string ⟨(bareF false s.data.toList).toArray⟩) ∧ Below w.heap.size w w' := by
  have HL := Lib.hid hL0.isIn
  clear hL0
  have hI0 : Lib.IsBuilder 34 5 w.heap.size w.heap.size (Lib.byteCells ([] : List UInt8)) (w.alloc (.cells #[.pointer none, .slice none 0 0] 34)) := Lib.fresh_isBuilder _ _ _
  have HI0 := Lib.hid hI0
  clear hI0
  go_enter Tryd.func28, Tryd.ntmps28
  go_wp2_with fail
  go_loopw [4, 9] (fun nt i wr => ∃ (k : Nat) (L : List UInt8) (nb : Bool), k ≤ s.size ∧ i = .int .i64 k ∧ nt = .bool nb ∧ Lib.IsBuilder 34 5 w.heap.size w.heap.size (Lib.byteCells L) wr ∧ Hid (BrAt s k L nb) ∧ Below w.heap.size w wr) (fun _ i _ => s.size - (intOf i).toNat)
  case atStart => exact ⟨0, [], false, Nat.zero_le _, rfl, rfl, HI0.out, ⟨Nat.le_refl _, rfl⟩, (Below.refl _ w).alloc (Nat.le_refl _) _⟩
  case round =>
    obtain ⟨k, L, nb, hk, rfl, rfl, hI, HT, hW⟩ := hrel
    clear HI0
    have HI := Lib.hid hI
    clear hI
    by_cases hlt : k < s.size
    · have hlen := HT.out.1
      by_cases c35 : s[k].toNat = 35
      · have t1 : ((s[k].toNat : Int) == 35) = true := by simp [c35]
        have HN := Lib.hid (HT.out.skip hlt (noteB_hash nb c35) (Or.inl rfl))
        clear c35
        go_wp2_with fail
        go_roundw
        case rel => exact ⟨k + 1, L, true, by omega, by go_num, rfl, HI.out, HN, hW⟩
        case measure => simp [intOf]; omega
      · by_cases c10 : s[k].toNat = 10
        · have t1 : ((s[k].toNat : Int) == 35) = false := by simp [c10]
          have t2 : ((s[k].toNat : Int) == 10) = true := by simp [c10]
          have hdn : dI s[k] = -1 := dI_no _ (Or.inl (by omega))
          have HN := Lib.hid (HT.out.skip hlt (noteB_line nb c10) (Or.inr (dI_none (by rw [hdn]; decide))))
          clear c35 c10 hdn
          go_wp2_with fail
          go_roundw
          case rel => exact ⟨k + 1, L, false, by omega, by go_num, rfl, HI.out, HN, hW⟩
          case measure => simp [intOf]; omega
        · have t1 : ((s[k].toNat : Int) == 35) = false := by simp; omega
          have t2 : ((s[k].toNat : Int) == 10) = false := by simp; omega
          have HNE := Lib.hid (noteB_else nb c35 c10)
          clear c35 c10
          cases nb with
          | true =>
            have HN := Lib.hid (HT.out.skip hlt HNE.out (Or.inl rfl))
            go_wp2_with fail
            go_roundw
            case rel => exact ⟨k + 1, L, true, by omega, by go_num, rfl, HI.out, HN, hW⟩
            case measure => simp [intOf]; omega
          | false =>
            by_cases hd : dgt s[k] = 16
            · have HN := Lib.hid (HT.out.skip hlt HNE.out (Or.inr hd))
              have HB := Lib.hid (hxB_no hd)
              clear hd
              go_wp2_with fail
              refine (isDigit_any w.heap.size s[k] _ (HL.out.below hW)).mono ?_
              rw [HB.out]
              rintro e w1 ⟨rfl, rfl⟩
              go_wp2_with fail
              go_roundw
              case rel => exact ⟨k + 1, L, false, by omega, by go_num, rfl, HI.out, HN, hW⟩
              case measure => simp [intOf]; omega
            · have HN := Lib.hid (HT.out.keep hlt HNE.out hd)
              have HB := Lib.hid (hxB_yes hd)
              clear hd
              go_wp2_with fail
              refine (isDigit_any w.heap.size s[k] _ (HL.out.below hW)).mono ?_
              rw [HB.out]
              rintro e w1 ⟨rfl, rfl⟩
              go_wp2_with fail
              refine (writeByte_any w.heap.size w.heap.size (Lib.byteCells L) _ wr HI.out (by rw [Lib.byteCells_length]; omega) hW.size).mono ?_
              rw [push_cells]
              rintro e w2 ⟨rfl, hI2, hB2⟩
              have HI2 := Lib.hid hI2
              clear hI2
              go_wp2_with fail
              go_roundw
              case rel => exact ⟨k + 1, _, false, by omega, by go_num, rfl, Or.inr HI2.out, HN, hW.trans hB2⟩
              case measure => simp [intOf]; omega
    · have : k = s.size := by omega
      subst this
      have HE := Lib.hid HT.out.last
      go_wp2_with fail
      refine (string_any w.heap.size w.heap.size L wr HI.out hW.size).mono ?_
      rintro e w2 ⟨rfl, hB2⟩
      go_wp2_with fail
      go_ret
      exact ⟨by rw [HE.out]; rfl, hW.trans hB2⟩
theorem bare_named (s : ByteArray) (hs : s.size ≤ 1000000) : ∃ t : ByteArray, t.size ≤ 1000000 ∧ t.data.toList = bareF false s.data.toList ∧
    ∀ w, HexOk w → Calls Tryd.prog 28 #[.string s] w fun e w' => e = .returned (.string t) ∧ Below w.heap.size w w' := by
  refine ⟨⟨(bareF false s.data.toList).toArray⟩, ?_, ?_, fun w hL => bare_any s w hs hL⟩
  · show (bareF false s.data.toList).toArray.size ≤ _
    rw [List.size_toArray]
    have := bare_len s.data.toList false
    rw [len_listH] at this; omega
  · exact List.toList_toArray
theorem join_val (s : ByteArray) (l : List UInt8) (w : World) (hs : s.size ≤ 1000000) (hL0 : HexOk w) (hd : ∀ c ∈ s.data.toList, dgt c ≠ 16) (hl : joinL s.data.toList = l) :
    Calls Tryd.prog 25 #[.string s] w fun e w' => e = .returned (.string ⟨l.toArray⟩) ∧ Below w.heap.size w w' := by
  subst hl; exact join_any s w hs hL0 hd
theorem hexLoad_any (s : ByteArray) (w : World) (hs : s.size ≤ 1000000) (hL0 : HexOk w) :
    Calls Tryd.prog 16 #[.string s] w fun e w' => e = .returned (.string ⟨(loadL s.data.toList).toArray⟩) ∧ Below w.heap.size w w' := by
  have hL := Lib.hid hL0
  clear hL0
  obtain ⟨t, hts, hte, htc⟩ := bare_named s hs
  have HC := Lib.hid htc
  have HS := Lib.hid hts
  have HJ : Hid (joinL t.data.toList = loadL s.data.toList) := by show _ = _; rw [hte, load_bare]
  have HD : Hid (∀ c ∈ t.data.toList, dgt c ≠ 16) := by show ∀ c ∈ _, _; rw [hte]; exact bare_digits _ _
  clear hts hte htc
  go_enter Tryd.func16, Tryd.ntmps16
  go_wp2_with fail
  refine (HC.out _ hL.out).mono ?_
  rintro e w1 ⟨rfl, hB⟩
  go_wp2_with fail
  refine (join_val t (loadL s.data.toList) _ HS.out (hL.out.below hB) HD.out HJ.out).mono ?_
  rintro e w2 ⟨rfl, hB2⟩
  have hW := hB.trans (hB2.mono hB.size)
  clear hB hB2
  go_wp2_with fail
  go_ret
  exact ⟨rfl, hW⟩

theorem badP_no {l : List UInt8} {k : Nat} (h : badP l = k) (hk : k < l.length) : badP l < l.length := by omega
set_option maxHeartbeats 1000000 in
theorem hexParse_any (s : ByteArray) (w : World) (hs : s.size ≤ 1000000) (hL0 : HexOk w) :
    Calls Tryd.prog 12 #[.string s] w fun e w' => e = .returned (.tuple #[.string ⟨(pV s.data.toList).toArray⟩, .int .i64 (pI s.data.toList), .int .i64 (pE s.data.toList)]) ∧ Below w.heap.size w w' := by
  have HL := Lib.hid hL0.isIn
  clear hL0
  go_enter Tryd.func12, Tryd.ntmps12
  go_wp2_with fail
  go_loop [8] (fun i => ∃ k : Nat, k ≤ s.size ∧ i = .int .i64 k ∧ Hid (badP s.data.toList = k + badP (s.data.toList.drop k))) (fun i => s.size - (intOf i).toNat)
  case atStart => exact ⟨0, Nat.zero_le _, rfl, by show badP _ = _; simp⟩
  case round =>
    obtain ⟨k, hk, rfl, HB⟩ := hrel
    by_cases hlt : k < s.size
    · by_cases hd : dgt s[k] = 16
      · have HP := Lib.hid (parse_bad (l := s.data.toList) (by rw [bad_here hlt HB.out hd, len_listH]; exact hlt))
        have HK := Lib.hid (bad_here hlt HB.out hd)
        have HN := Lib.hid (hxB_no hd)
        clear hd
        go_wp2_with fail
        refine (isDigit_any w.heap.size s[k] _ HL.out).mono ?_
        rw [HN.out]
        rintro e w1 ⟨rfl, rfl⟩
        go_wp2_with fail
        go_ret3
        exact ⟨ret3_eq (by rw [HP.out.1]) (by rw [HP.out.2.1, HK.out]) (by rw [HP.out.2.2]), Below.refl _ _⟩
      · have HN := Lib.hid (bad_on hlt HB.out hd)
        have HY := Lib.hid (hxB_yes hd)
        clear hd
        go_wp2_with fail
        refine (isDigit_any w.heap.size s[k] _ HL.out).mono ?_
        rw [HY.out]
        rintro e w1 ⟨rfl, rfl⟩
        go_wp2_with fail
        go_round
        case rel => exact ⟨k + 1, by omega, by go_num, HN⟩
        case measure => simp [intOf]; omega
    · have hks : k = s.size := by omega
      subst hks
      have HA : Hid (badP s.data.toList = s.data.toList.length) := by
        have q := HB.out
        rw [List.drop_eq_nil_of_le (by rw [len_listH]; exact Nat.le_refl _)] at q
        show badP s.data.toList = s.data.toList.length
        rw [q, len_listH]; rfl
      by_cases hodd : s.size % 2 = 1
      · have HP := Lib.hid (parse_odd HA.out (by rw [len_listH]; exact hodd))
        have t1 : ((s.size : Int) % 2 != 0) = true := by simp; omega
        clear hodd
        go_wp2_with fail
        go_ret3
        exact ⟨ret3_eq (by rw [HP.out.1]) (by rw [HP.out.2.1, len_listH]) (by rw [HP.out.2.2]), Below.refl _ _⟩
      · have HP := Lib.hid (parse_even HA.out (by rw [len_listH]; omega))
        have HD := Lib.hid ((badP_all s.data.toList).mp HA.out)
        have HJ := Lib.hid (join_load s.data.toList HD.out)
        have t1 : ((s.size : Int) % 2 != 0) = false := by simp; omega
        clear hodd
        go_wp2_with fail
        refine (join_any s _ hs HL.out.1 HD.out).mono ?_
        rw [← HJ.out]
        rintro e w1 ⟨rfl, hW⟩
        go_wp2_with fail
        go_ret3
        exact ⟨ret3_eq (by rw [HP.out.1]; rfl) (by rw [HP.out.2.1]) (by rw [HP.out.2.2]), hW⟩
end Go.Proofs.YtcgaloaagalnbaaDoor
