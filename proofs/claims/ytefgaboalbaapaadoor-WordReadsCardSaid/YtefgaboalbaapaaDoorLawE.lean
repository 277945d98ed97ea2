/-
  The walk of WordReads: any text is read as the document reads it, and a word's text is the document's, and is read as it.
-/
import Derived.Test.YtefgaboalbaapaaDoorAlive
import Derived.Test.YtefgaboalbaapaaDoorParse
import Derived.Test.YtefgaboalbaapaaDoorRefParse
import Derived.Test.YtefgaboalbaapaaDoorRefText
namespace Go.Proofs.YtefgaboalbaapaaDoor
open Go.RowKit Go.Lib

/-- What the listed variables of the library give a walk: the table of powers of ten, and the sentinel. -/
def LibVars (w : World) : Prop := TabIs Tryd.prog w "internal/strconv.uint64pow10" .u64 pow10Tab ∧ ∃ tp p, w.cell? ⟨2, 0, none⟩ = some (.iface tp p)
theorem tab_below {w w' : World} {n : String} {k : IntKind} {zs : List Int} (h : TabIs Tryd.prog w n k zs) (hB : Below w.heap.size w w') : TabIs Tryd.prog w' n k zs := by
  unfold TabIs World.var? at *
  cases hg : Tryd.prog.globalNamed n with
  | none => simp [hg] at h
  | some g =>
    simp only [hg, Option.bind_some] at h ⊢
    have hlt : g < w.heap.size := by
      rcases Nat.lt_or_ge g w.heap.size with h' | h'
      · exact h'
      · rw [Array.getElem?_eq_none h'] at h; simp at h
    rw [hB.block g hlt]
    exact h
theorem cell_lt' {w : World} {g : Nat} {v : Value} (h : w.cell? ⟨g, 0, none⟩ = some v) : g < w.heap.size := by
  rcases Nat.lt_or_ge g w.heap.size with h' | h'
  · exact h'
  · simp [World.cell?, Array.getElem?_eq_none h'] at h
theorem LibVars.below {w w' : World} (h : LibVars w) (hB : Below w.heap.size w w') : LibVars w' := by
  obtain ⟨h1, tp, p, h2⟩ := h
  exact ⟨tab_below h1 hB, tp, p, by rw [hB.cell (p := ⟨2, 0, none⟩) (cell_lt' h2)]; exact h2⟩

theorem parse_libs (s : ByteArray) (w : World) (hs : s.size ≤ 1000000) (hL : LibVars w) (v f : Int) (hv : parseV s.data.toList = v) (hf : parseE s.data.toList = f) :
    Calls Tryd.prog 21 #[.string s] w fun e w' => e = .returned (.tuple #[.int .u32 v, .int .i64 f]) ∧ Below w.heap.size w w' := by
  obtain ⟨_, tp, p, h⟩ := hL
  rw [← hv, ← hf]
  exact parse_any s w hs tp p h
theorem refParse_val (s : ByteArray) (w : World) (hs : s.size ≤ 1000000) (v f : Int) (hv : parseV s.data.toList = v) (hf : parseE s.data.toList = f) :
    Calls Tryd.prog 22 #[.string s] w fun e w' => e = .returned (.tuple #[.int .u32 v, .int .i64 f]) ∧ w = w' := by
  rw [← hv, ← hf]
  exact refParse_any s w hs
theorem text_val (n : Int) (t : ByteArray) (w : World) (hn : 0 ≤ n) (hn' : n < 4294967296) (hL : LibVars w) (ht : t = ⟨(decDigits n.toNat).toArray⟩) :
    Calls Tryd.prog 23 #[.int .u32 n] w fun e w' => e = .returned (.string t) ∧ Below w.heap.size w w' := by
  obtain ⟨u, rfl⟩ := Int.eq_ofNat_of_zero_le hn
  rw [ht]
  exact text_any u (by omega) w hL.1
theorem refText_val (n : Int) (t : ByteArray) (w : World) (hn : 0 ≤ n) (hn' : n < 4294967296) (ht : t = ⟨(decDigits n.toNat).toArray⟩) :
    Calls Tryd.prog 24 #[.int .u32 n] w fun e w' => e = .returned (.string t) ∧ Below w.heap.size w w' := by
  obtain ⟨u, rfl⟩ := Int.eq_ofNat_of_zero_le hn
  rw [ht]
  exact refText_any u (by omega) w
theorem digits_size (u : Nat) (h : u < 4294967296) : (⟨(decDigits u).toArray⟩ : ByteArray).size ≤ 20 := by
  rw [size_eq]
  show ((decDigits u).toArray).toList.length ≤ 20
  rw [List.toList_toArray, decDigits_length]
  exact nDigits_le20 u (by omega)
theorem parse_digits (u : Nat) (h : u < 4294967296) : parseV (⟨(decDigits u).toArray⟩ : ByteArray).data.toList = u ∧ parseE (⟨(decDigits u).toArray⟩ : ByteArray).data.toList = 0 := by
  show parseV ((decDigits u).toArray).toList = u ∧ parseE ((decDigits u).toArray).toList = 0
  rw [List.toList_toArray]
  have h1 := digits_num u
  have h2 := decV_digits u
  exact ⟨by simp [parseV, h1, h2, h], by simp [parseE, h1, h2]; omega⟩
theorem back_text (s : ByteArray) (h : parseE s.data.toList = 0) : s = ⟨(decDigits (parseV s.data.toList).toNat).toArray⟩ ∧ 0 ≤ parseV s.data.toList ∧ parseV s.data.toList < 4294967296 := by
  have hn : numB s.data.toList = true := by
    cases q : numB s.data.toList with
    | true => rfl
    | false => simp [parseE, q] at h
  have hv : decV s.data.toList < 4294967296 := by
    rcases Nat.lt_or_ge (decV s.data.toList) 4294967296 with q | q
    · exact q
    · simp [parseE, hn, q] at h
  have hp : parseV s.data.toList = decV s.data.toList := by simp [parseV, hn, hv]
  rw [hp]
  refine ⟨?_, by omega, by omega⟩
  rw [Int.toNat_natCast, digits_read hn]

set_option maxHeartbeats 1000000 in
theorem reads_long (s : ByteArray) (n : Int) (w : World) (hs : s.size ≤ maxLen) (hl : 200 < s.size) :
    Calls Tryd.prog 6 #[.string s, .int .u32 n] w fun e w' => e = .returned (.bool true) ∧ Below w.heap.size w w' := by
  unfold maxLen at hs
  go_enter Tryd.func6, Tryd.ntmps6
  go_wp2_with fail
  refine (alive_any _).mono ?_
  rintro e w1 ⟨rfl, hB⟩
  go_wp2_with fail
  go_ret
  exact ⟨rfl, hB⟩

set_option maxHeartbeats 1000000 in
theorem reads_walk (s t : ByteArray) (n v f : Int) (w : World) (hs : s.size ≤ 200) (ht : t.size ≤ 20) (hL : Hid (LibVars w)) (hn : 0 ≤ n) (hn' : n < 4294967296)
    (HV : Hid (parseV s.data.toList = v)) (HF : Hid (parseE s.data.toList = f)) (HT : Hid (t = ⟨(decDigits n.toNat).toArray⟩))
    (HTV : Hid (parseV t.data.toList = n)) (HTE : Hid (parseE t.data.toList = 0)) (hc : f ≠ 0 ∨ (f = 0 ∧ 0 ≤ v ∧ v < 4294967296 ∧ s = ⟨(decDigits v.toNat).toArray⟩)) :
    Calls Tryd.prog 6 #[.string s, .int .u32 n] w fun e w' => e = .returned (.bool true) ∧ Below w.heap.size w w' := by
  have hcase : ∃ b : Bool, (f == 0) = b ∧ (b = true → 0 ≤ v ∧ v < 4294967296 ∧ s = ⟨(decDigits v.toNat).toArray⟩) := ⟨_, rfl, fun q => by
    rcases hc with h | h
    · exact absurd (by simpa using q) h
    · exact h.2⟩
  obtain ⟨b, hb, hbb⟩ := hcase
  have HB := Lib.hid hbb
  clear hc hbb
  have hb' : (f != 0) = !b := by rw [← hb]; rfl
  go_enter Tryd.func6, Tryd.ntmps6
  cases b
  all_goals
    go_wp2_with fail
    refine (alive_any _).mono ?_
    rintro e w1 ⟨rfl, hB⟩
    have hL1 := Lib.hid (hL.out.below hB)
    go_wp2_with fail
    refine (parse_libs s _ (by omega) hL1.out v f HV.out HF.out).mono ?_
    rintro e w2 ⟨rfl, hB2⟩
    have hL2 := Lib.hid (hL1.out.below hB2)
    go_wp2_with fail
    refine (refParse_val s _ (by omega) v f HV.out HF.out).mono ?_
    rintro e w3 ⟨rfl, rfl⟩
    go_wp2_with fail
    refine (text_val n t _ hn hn' hL2.out HT.out).mono ?_
    rintro e w3 ⟨rfl, hB3⟩
    have hL3 := Lib.hid (hL2.out.below hB3)
    go_wp2_with fail
    refine (parse_libs t _ (by omega) hL3.out n 0 HTV.out HTE.out).mono ?_
    rintro e w4 ⟨rfl, hB4⟩
    have hL4 := Lib.hid (hL3.out.below hB4)
    go_wp2_with fail
    refine (refText_val n t _ hn hn' HT.out).mono ?_
    rintro e w5 ⟨rfl, hB5⟩
    have hL5 := Lib.hid (hL4.out.below hB5)
    have hW : Below w.heap.size w w5 := hB.trans ((hB2.trans ((hB3.trans ((hB4.trans (hB5.mono hB4.size)).mono hB3.size)).mono hB2.size)).mono hB.size)
    clear hB hB2 hB3 hB4 hB5
    go_wp2_with fail
  · go_ret
    exact ⟨rfl, hW⟩
  · obtain ⟨v0, v1, vs⟩ := HB.out trivial
    refine (text_val v s _ v0 v1 hL5.out vs).mono ?_
    rintro e w6 ⟨rfl, hB6⟩
    go_wp2_with fail
    go_ret
    exact ⟨rfl, hW.trans (hB6.mono hW.size)⟩

theorem reads_any (s : ByteArray) (n : Int) (w : World) (hs : s.size ≤ maxLen) (hn : 0 ≤ n) (hn' : n < 4294967296) (hL : LibVars w) :
    Calls Tryd.prog 6 #[.string s, .int .u32 n] w fun e w' => e = .returned (.bool true) ∧ Below w.heap.size w w' := by
  by_cases hl : 200 < s.size
  · exact reads_long s n w hs hl
  · obtain ⟨u, rfl⟩ := Int.eq_ofNat_of_zero_le hn
    have hp := parse_digits u (by omega)
    refine reads_walk s ⟨(decDigits u).toArray⟩ u _ _ w (by omega) (digits_size u (by omega)) hL hn hn' rfl rfl rfl hp.1 hp.2 ?_
    by_cases hf : parseE s.data.toList = 0
    · obtain ⟨h1, h2, h3⟩ := back_text s hf
      exact Or.inr ⟨hf, h2, h3, h1⟩
    · exact Or.inl hf
end Go.Proofs.YtefgaboalbaapaaDoor
