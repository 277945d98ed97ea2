/-
  The contract of the code's Dump, row by row.
-/
import Derived.Test.YtcgaloaagalnbaaDoorCHexL
import Derived.Test.YtcgaloaagalnbaaDoorRHexU
import Derived.WalkLawsBesides
import Derived.Lib.Strings
namespace Go.Proofs.YtcgaloaagalnbaaDoor
open Go.RowKit

/-- A row's digits, with a blank between two bytes. -/
def rowF (first : Bool) : List UInt8 → List UInt8
  | [] => []
  | c :: r => (if first = true then [] else [32]) ++ sgn (c.toNat / 16) :: sgn (c.toNat % 16) :: rowF false r
theorem rowF_len (l : List UInt8) : ∀ f, (rowF f l).length ≤ 3 * l.length := by
  induction l with
  | nil => intro f; simp [rowF]
  | cons c l ih =>
    intro f
    have := ih false
    rw [rowF]
    cases f <;> simp <;> omega
def lineD (n : Nat) : List UInt8 := [32, 32, 35, 32] ++ Lib.decDigits n ++ [10]
theorem dp_row (l : List UInt8) : ∀ i, l ≠ [] → dpF i l = rowF (decide (i % 16 = 0)) (l.take (16 - i % 16)) ++ lineD (i - i % 16) ++ dpF (i - i % 16 + 16) (l.drop (16 - i % 16)) := by
  induction l with
  | nil => intro i h; exact absurd rfl h
  | cons c r ih =>
    intro i _
    have hj : i % 16 < 16 := Nat.mod_lt _ (by omega)
    have et : ∀ m, (c :: r).take (m + 1) = c :: r.take m := fun m => rfl
    have ed : ∀ m, (c :: r).drop (m + 1) = r.drop m := fun m => rfl
    obtain ⟨m, hm⟩ : ∃ m, 16 - i % 16 = m + 1 := ⟨15 - i % 16, by omega⟩
    rw [dpF, hm, et, ed, rowF]
    have e0 : (if i % 16 = 0 then ([] : List UInt8) else [32]) = (if decide (i % 16 = 0) = true then [] else [32]) := by
      by_cases q : i % 16 = 0 <;> simp [q]
    by_cases h15 : i % 16 = 15
    · obtain rfl : m = 0 := by omega
      rw [if_pos (Or.inl h15), e0, show i - i % 16 + 16 = i + 1 by omega]
      simp [rowF, lineD]
    · by_cases hr : r = []
      · subst hr
        rw [if_pos (Or.inr rfl), e0]
        simp [rowF, lineD, dpF]
      · have hs : (i + 1) % 16 = i % 16 + 1 := by omega
        have := ih (i + 1) hr
        have hnot : ¬ (i % 16 = 15 ∨ r = []) := fun q => q.elim h15 hr
        rw [e0, if_neg hnot, this, show i + 1 - (i + 1) % 16 = i - i % 16 by omega, show 16 - (i + 1) % 16 = m by omega, show decide ((i + 1) % 16 = 0) = false by simp; omega]
        simp
theorem dp_row0 {l : List UInt8} {n : Nat} (hn : n % 16 = 0) (hl : l ≠ []) : dpF n l = rowF true (l.take 16) ++ lineD n ++ dpF (n + 16) (l.drop 16) := by
  rw [dp_row l n hl, hn]; rfl

/-! One row. -/
def RwAt (s : ByteArray) (l : List UInt8) (k : Nat) (L : List UInt8) : Prop := L.length ≤ l.length + 3 * k ∧ l ++ rowF true s.data.toList = L ++ rowF (decide (k = 0)) (s.data.toList.drop k)
theorem RwAt.first {s : ByteArray} {l L : List UInt8} (q : RwAt s l 0 L) (h : 0 < s.size) : RwAt s l (0 + 1) (L ++ [sgn (s[0].toNat / 16), sgn (s[0].toNat % 16)]) := by
  refine ⟨by rw [List.length_append]; simp; have := q.1; omega, ?_⟩
  rw [q.2, drop_one s 0 h, rowF]; simp
theorem RwAt.next {s : ByteArray} {l L : List UInt8} {k : Nat} (q : RwAt s l k L) (hk : 0 < k) (h : k < s.size) : RwAt s l (k + 1) ((L ++ [32]) ++ [sgn (s[k].toNat / 16), sgn (s[k].toNat % 16)]) := by
  refine ⟨by rw [List.length_append, List.length_append]; simp; have := q.1; omega, ?_⟩
  rw [q.2, drop_one s k h, rowF, show decide (k = 0) = false by simp; omega, show decide (k + 1 = 0) = false by simp]
  simp
theorem RwAt.last {s : ByteArray} {l L : List UInt8} (q : RwAt s l s.size L) : l ++ rowF true s.data.toList = L := by
  rw [q.2, List.drop_eq_nil_of_le (by rw [len_listH]; exact Nat.le_refl _)]; simp [rowF]
theorem space_cells (L : List UInt8) : Lib.byteCells L ++ [.int .u8 32] = Lib.byteCells (L ++ [32]) := by simp [Lib.byteCells]

set_option maxHeartbeats 1000000 in
theorem writeRow_any (B b : Nat) (l : List UInt8) (s : ByteArray) (w : World) (hs : s.size ≤ 16) (h : Lib.IsBuilder 34 5 B b (Lib.byteCells l) w) (hlen : l.length ≤ 50000000) (hL : HexIn B w) :
    Calls Tryd.prog 29 #[.pointer (some ⟨b, 0, none⟩), .string s] w fun e w' => e = .returned (.tuple #[]) ∧ Lib.IsBuilder 34 5 B b (Lib.byteCells (l ++ rowF true s.data.toList)) w' ∧ Below B w w' := by
  have HI0 := Lib.hid h
  have HL := Lib.hid hL
  have hBw := hL.2.1
  clear h hL
  go_enter Tryd.func29, Tryd.ntmps29
  go_wp2_with fail
  go_loopw [7] (fun i wr => ∃ (k : Nat) (L : List UInt8), k ≤ s.size ∧ i = .int .i64 k ∧ Lib.IsBuilder 34 5 B b (Lib.byteCells L) wr ∧ Hid (RwAt s l k L) ∧ Below B w wr) (fun i _ => s.size - (intOf i).toNat)
  case atStart => exact ⟨0, l, Nat.zero_le _, rfl, HI0.out, ⟨Nat.le_refl _, rfl⟩, Below.refl _ w⟩
  case round =>
    obtain ⟨k, L, hk, rfl, hI, HT, hW⟩ := hrel
    clear HI0
    have HI := Lib.hid hI
    clear hI
    have hlL := HT.out.1
    have hBr := Nat.le_trans hBw hW.size
    by_cases hlt : k < s.size
    · by_cases hk0 : k = 0
      · subst hk0
        have HN := Lib.hid (HT.out.first hlt)
        go_wp2_with fail
        refine (writeHex_any B b L s[0] wr HI.out (by omega) (HL.out.below hW)).mono ?_
        rintro e w2 ⟨rfl, hI2, hB2⟩
        have HI2 := Lib.hid hI2
        clear hI2
        go_wp2_with fail
        go_roundw
        case rel => exact ⟨0 + 1, _, by omega, by go_num, HI2.out, HN, hW.trans hB2⟩
        case measure => simp [intOf]; omega
      · have HN := Lib.hid (HT.out.next (by omega) hlt)
        have t1 : decide (0 < (k : Int)) = true := by simp; omega
        have t2 : decide (0 < k) = true := by simp; omega
        go_wp2_with fail
        refine (writeByte_any B b (Lib.byteCells L) _ wr HI.out (by rw [Lib.byteCells_length]; omega) hBr).mono ?_
        rw [space_cells]
        rintro e w2 ⟨rfl, hI2, hB2⟩
        have HI2 := Lib.hid (Or.inr hI2 : Lib.IsBuilder 34 5 B b (Lib.byteCells (L ++ [32])) w2)
        have hW2 := hW.trans hB2
        clear hI2 hB2
        go_wp2_with fail
        refine (writeHex_any B b (L ++ [32]) s[k] w2 HI2.out (by rw [List.length_append, List.length_singleton]; omega) (HL.out.below hW2)).mono ?_
        rintro e w3 ⟨rfl, hI3, hB3⟩
        have HI3 := Lib.hid hI3
        clear hI3
        go_wp2_with fail
        go_roundw
        case rel => exact ⟨k + 1, _, by omega, by go_num, HI3.out, HN, hW2.trans hB3⟩
        case measure => simp [intOf]; omega
    · have : k = s.size := by omega
      subst this
      have HE := Lib.hid HT.out.last
      go_wp2_with fail
      first | go_end0 | refine bodyPost_ret (results_none rfl _ _ _) rfl ?_
      exact ⟨rfl, by rw [HE.out]; exact HI.out, hW⟩
/-! The rows of a dump. -/
theorem dec_len2 (u : Nat) (h : u < 4294967296) : (Lib.decDigits u).length ≤ 20 := by
  rw [Lib.decDigits_length]; exact Lib.nDigits_le20 u (by omega)
def DmAt (s : ByteArray) (n : Nat) (L : List UInt8) : Prop := n % 16 = 0 ∧ L.length ≤ 40 * n ∧ dumpL s.data.toList = L ++ dpF n (s.data.toList.drop n)
/-- The row's bytes from a place on. -/
theorem row_of (s : ByteArray) (n m : Nat) (hm : m = min (n + 16) s.size) (h : n < s.size) : ∃ t : ByteArray, s.extract n m = t ∧ t.size ≤ 16 ∧ t.data.toList = (s.data.toList.drop n).take 16 := by
  refine ⟨_, rfl, ?_, ?_⟩
  · rw [ByteArray.size_extract]; omega
  · rw [Lib.extract_data]
    by_cases q : n + 16 ≤ s.size
    · rw [show m - n = 16 by omega]
    · rw [List.take_of_length_le (by rw [List.length_drop, len_listH]; omega), List.take_of_length_le (by rw [List.length_drop, len_listH]; omega)]
theorem DmAt.next {s : ByteArray} {n : Nat} {L : List UInt8} (q : DmAt s n L) (h : n < s.size) (hs : s.size ≤ 100000) {t : ByteArray} (ht : t.data.toList = (s.data.toList.drop n).take 16) :
    DmAt s (n + 16) ((((L ++ rowF true t.data.toList) ++ [32, 32, 35, 32]) ++ Lib.decDigits n) ++ [10]) := by
  obtain ⟨q1, q2, q3⟩ := q
  have hne : s.data.toList.drop n ≠ [] := by rw [drop_one s n h]; simp
  have h1 := rowF_len t.data.toList true
  have h2 : t.data.toList.length ≤ 16 := by rw [ht]; exact List.length_take_le _ _
  have h3 := dec_len2 n (by omega)
  refine ⟨by omega, ?_, ?_⟩
  · simp only [List.length_append, List.length_cons, List.length_nil]; omega
  · rw [q3, dp_row0 q1 hne, ht, List.drop_drop]
    simp [lineD]
theorem DmAt.last {s : ByteArray} {n : Nat} {L : List UInt8} (q : DmAt s n L) (h : s.size ≤ n) : dumpL s.data.toList = L := by
  rw [q.2.2, List.drop_eq_nil_of_le (by rw [len_listH]; exact h)]; simp [dpF]
theorem str_cells (L : List UInt8) (t : List UInt8) : Lib.byteCells L ++ Lib.strCells ⟨t.toArray⟩ = Lib.byteCells (L ++ t) := by
  simp [Lib.byteCells, Lib.strCells]
theorem wordText_any (n : Int) (u : Nat) (w : World) (hn : n = (u : Int)) (hu : u < 4294967296) (hL : HexOk w) :
    Calls Tryd.prog 31 #[.int .u32 n] w fun e w' => e = .returned (.string ⟨(Lib.decDigits u).toArray⟩) ∧ Below w.heap.size w w' := by
  subst hn; exact text_any u hu w hL.2.2

theorem builder_below {B b : Nat} {L : List UInt8} {w w' : World} (h : Lib.IsBuilder 34 5 B b (Lib.byteCells L) w) (hb : Below w.heap.size w w') : Lib.IsBuilder 34 5 B b (Lib.byteCells L) w' := by
  have key : ∀ p, Lib.BuilderAt 34 5 B b p (Lib.byteCells L) w → Lib.BuilderAt 34 5 B b p (Lib.byteCells L) w' := by
    rintro p ⟨hB, v, hh, hown, hne⟩
    have hlt : b < w.heap.size := by
      rcases Nat.lt_or_ge b w.heap.size with q | q
      · exact q
      · rw [Array.getElem?_eq_none q] at hh; cases hh
    have ho : OwnsC B v L w := by unfold OwnsC; rw [Lib.byteCells_length] at hown; exact hown
    have ho' := ho.below hb
    refine ⟨hB, v, by rw [hb.block b hlt]; exact hh, ?_, hne⟩
    unfold OwnsC at ho'
    rw [Lib.byteCells_length]; exact ho'
  exact h.elim (fun q => Or.inl (key _ q)) (fun q => Or.inr (key _ q))

set_option maxHeartbeats 2000000 in
theorem hexDump_any (s : ByteArray) (w : World) (hs : s.size ≤ 100000) (hL0 : HexOk w) :
    Calls Tryd.prog 18 #[.string s] w fun e w' => e = .returned (.string ⟨(dumpL s.data.toList).toArray⟩) ∧ Below w.heap.size w w' := by
  have HL := Lib.hid hL0.isIn
  clear hL0
  have hI0 : Lib.IsBuilder 34 5 w.heap.size w.heap.size (Lib.byteCells ([] : List UInt8)) (w.alloc (.cells #[.pointer none, .slice none 0 0] 34)) := Lib.fresh_isBuilder _ _ _
  have HI0 := Lib.hid hI0
  clear hI0
  go_enter Tryd.func18, Tryd.ntmps18
  go_wp2_with fail
  go_loopw [4] (fun i wr => ∃ (n : Nat) (L : List UInt8), n ≤ s.size + 16 ∧ i = .int .i64 n ∧ Lib.IsBuilder 34 5 w.heap.size w.heap.size (Lib.byteCells L) wr ∧ Hid (DmAt s n L) ∧ Below w.heap.size w wr) (fun i _ => s.size + 16 - (intOf i).toNat)
  case atStart => exact ⟨0, [], Nat.zero_le _, rfl, HI0.out, ⟨rfl, Nat.le_refl _, rfl⟩, (Below.refl _ w).alloc (Nat.le_refl _) _⟩
  case round =>
    obtain ⟨n, L, hn, rfl, hI, HT, hW⟩ := hrel
    clear HI0
    have HI := Lib.hid hI
    clear hI
    have hlen := HT.out.2.1
    by_cases hlt : n < s.size
    · obtain ⟨m, hm⟩ : ∃ m, m = min (n + 16) s.size := ⟨_, rfl⟩
      obtain ⟨t, hext, hts, htl⟩ := row_of s n m hm hlt
      have HN := Lib.hid (HT.out.next hlt hs htl)
      have hrl := rowF_len t.data.toList true
      have hdl := dec_len2 n (by omega)
      have htn : t.data.toList.length ≤ 16 := by rw [len_listH]; exact hts
      have hmin : min ((n : Int) + 16) (s.size : Int) = (m : Int) := by omega
      have hm1 : n ≤ m := by omega
      have hm2 : m ≤ s.size := by omega
      have hm3 : (0 : Int) ≤ (n : Int) := by omega
      have hm4 : (n : Int) ≤ (m : Int) := by omega
      have hm5 : (m : Int) ≤ (s.size : Int) := by omega
      clear hm htl
      go_wp2_with fail
      refine (writeRow_any w.heap.size w.heap.size L t wr hts HI.out (by omega) (HL.out.below hW)).mono ?_
      rintro e w2 ⟨rfl, hI2, hB2⟩
      clear hmin hext
      have HI2 := Lib.hid hI2
      have hW2 := hW.trans hB2
      have hl2 : (L ++ rowF true t.data.toList).length ≤ 10000000 := by rw [List.length_append]; omega
      clear hI2 hB2
      generalize L ++ rowF true t.data.toList = L2 at HI2 HN hl2
      go_wp2_with fail
      refine (writeString_any w.heap.size w.heap.size (Lib.byteCells L2) _ w2 HI2.out (by rw [Lib.byteCells_length]; show _ + 4 ≤ _; omega) hW2.size).mono ?_
      rw [str_cells]
      rintro e w3 ⟨rfl, hI3, hB3⟩
      have HI3 := Lib.hid (Or.inr hI3 : Lib.IsBuilder 34 5 w.heap.size w.heap.size (Lib.byteCells (L2 ++ [32, 32, 35, 32])) w3)
      have hW3 := hW2.trans hB3
      have hl3 : (L2 ++ [32, 32, 35, 32]).length ≤ 10000004 := by rw [List.length_append]; show _ + 4 ≤ _; omega
      clear hI3 hB3
      generalize L2 ++ [32, 32, 35, 32] = L3 at HI3 HN hl3
      go_wp2_with fail
      refine (wordText_any _ n w3 (by first | rfl | omega) (by omega) (HL.out.below hW3).1).mono ?_
      rintro e w4 ⟨rfl, hB4⟩
      have hW4 := hW3.trans (hB4.mono hW3.size)
      have HI4 := Lib.hid (builder_below HI3.out hB4)
      clear HI3 hB4
      go_wp2_with fail
      refine (writeString_any w.heap.size w.heap.size (Lib.byteCells L3) _ w4 HI4.out (by rw [Lib.byteCells_length]; show _ + (Lib.decDigits n).toArray.size ≤ _; rw [List.size_toArray]; omega) hW4.size).mono ?_
      rw [str_cells]
      rintro e w5 ⟨rfl, hI5, hB5⟩
      have HI5 := Lib.hid (Or.inr hI5 : Lib.IsBuilder 34 5 w.heap.size w.heap.size (Lib.byteCells (L3 ++ Lib.decDigits n)) w5)
      have hW5 := hW4.trans hB5
      have hl5 : (L3 ++ Lib.decDigits n).length ≤ 10000024 := by rw [List.length_append]; omega
      clear hI5 hB5
      generalize L3 ++ Lib.decDigits n = L5 at HI5 HN hl5
      go_wp2_with fail
      refine (writeByte_any w.heap.size w.heap.size (Lib.byteCells L5) _ w5 HI5.out (by rw [Lib.byteCells_length]; omega) hW5.size).mono ?_
      rintro e w6 ⟨rfl, hI6, hB6⟩
      have HI6 := Lib.hid hI6
      clear hI6
      go_wp2_with fail
      go_roundw
      case rel => exact ⟨n + 16, _, by omega, by go_num, Or.inr (by have := HI6.out; simpa [Lib.byteCells] using this), HN, hW5.trans hB6⟩
      case measure => simp [intOf]; omega
    · have HE := Lib.hid (HT.out.last (by omega))
      go_wp2_with fail
      refine (string_any w.heap.size w.heap.size L wr HI.out hW.size).mono ?_
      rintro e w2 ⟨rfl, hB2⟩
      go_wp2_with fail
      go_ret
      exact ⟨by rw [HE.out]; rfl, hW.trans hB2⟩
end Go.Proofs.YtcgaloaagalnbaaDoor
