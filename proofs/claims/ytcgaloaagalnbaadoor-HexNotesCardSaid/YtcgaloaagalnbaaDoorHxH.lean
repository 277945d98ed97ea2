/-
  The law's helpers: does a byte stand in a text; small letters as great ones.
-/
import Derived.Test.YtcgaloaagalnbaaDoorHxM
namespace Go.Proofs.YtcgaloaagalnbaaDoor
open Go.RowKit

/-- Does a byte stand in a row of them? -/
def hasB (c : Int) (l : List UInt8) : Bool := l.any fun x => ((x.toNat : Int) == c)
theorem hasB_drop {c : Int} (s : ByteArray) (k : Nat) (h : k < s.size) : hasB c (s.data.toList.drop k) = (((s[k].toNat : Int) == c) || hasB c (s.data.toList.drop (k + 1))) := by
  rw [drop_one s k h]
  rfl
theorem hasB_not {c : Int} {l : List UInt8} (h : hasB c l = false) : ∀ x ∈ l, (x.toNat : Int) ≠ c := by
  intro x hx e
  unfold hasB at h
  rw [List.any_eq_false] at h
  exact h x hx (by simp [e])
theorem ret_boolH {a b : Bool} (h : a = b) : Ending.returned (.bool a) = .returned (.bool b) := by rw [h]

theorem has_any (s : ByteArray) (c : Int) (w : World) (_hs : s.size ≤ 1000000) :
    Calls Tryd.prog 20 #[.string s, .int .u8 c] w fun e w' => e = .returned (.bool (hasB c s.data.toList)) ∧ w = w' := by
  go_enter Tryd.func20, Tryd.ntmps20
  go_wp2
  go_loop [5] (fun i => ∃ k : Nat, k ≤ s.size ∧ i = .int .i64 k ∧ Hid (hasB c s.data.toList = hasB c (s.data.toList.drop k))) (fun i => s.size - (intOf i).toNat)
  case atStart => exact ⟨0, Nat.zero_le _, rfl, rfl⟩
  case round =>
    obtain ⟨k, hk, rfl, HB⟩ := hrel
    by_cases hlt : k < s.size
    · have HD := Lib.hid (hasB_drop (c := c) s k hlt)
      obtain ⟨b, hb⟩ : ∃ b : Bool, ((s[k].toNat : Int) == c) = b := ⟨_, rfl⟩
      have HBB := Lib.hid hb
      cases b with
      | true =>
        go_wp2
        go_ret
        exact ⟨ret_boolH (by rw [HB.out, HD.out, HBB.out]; rfl), rfl⟩
      | false =>
        have HN : Hid (hasB c s.data.toList = hasB c (s.data.toList.drop (k + 1))) := by
          show hasB c _ = _
          rw [HB.out, HD.out, HBB.out]; rfl
        go_wp2
        go_round
        case rel => exact ⟨k + 1, by omega, by go_num, HN⟩
        case measure => simp [intOf]; omega
    · have : k = s.size := by omega
      subst this
      have HE : Hid (hasB c s.data.toList = false) := by
        show hasB c _ = _
        rw [HB.out, List.drop_eq_nil_of_le (by rw [Array.length_toList]; exact Nat.le_refl _)]; rfl
      go_wp2
      go_ret
      exact ⟨ret_boolH (by rw [HE.out]), rfl⟩

/-- What a row of bytes holds while the letters ahead of a place are turned. -/
def gAt (l : List UInt8) (k j : Nat) : UInt8 := if j < k then greatC (l.getD j 0) else l.getD j 0
def GrAt (g n : Nat) (l : List UInt8) (k : Nat) (w : World) : Prop := (∀ j, j < n → w.cell? ⟨g, j, none⟩ = some (.int .u8 ((gAt l k j).toNat : Int))) ∧ ∀ j, j < n → w.frozen? ⟨g, j, none⟩ = false
theorem gAt_same {l : List UInt8} {k : Nat} : gAt l k k = l.getD k 0 := by unfold gAt; rw [if_neg (by omega)]
theorem gAt_next {l : List UInt8} {k j : Nat} (h : j ≠ k) : gAt l (k + 1) j = gAt l k j := by
  unfold gAt
  by_cases q : j < k
  · rw [if_pos q, if_pos (by omega)]
  · rw [if_neg q, if_neg (by omega)]
theorem gAt_now {l : List UInt8} {k : Nat} : gAt l (k + 1) k = greatC (l.getD k 0) := by unfold gAt; rw [if_pos (by omega)]
theorem GrAt.keep {g n k : Nat} {l : List UInt8} {w : World} (h : GrAt g n l k w) (_hk : k < n) (hc : greatC (l.getD k 0) = l.getD k 0) : GrAt g n l (k + 1) w := by
  refine ⟨fun j hj => ?_, h.2⟩
  rw [h.1 j hj]
  by_cases q : j = k
  · subst q; rw [gAt_same, gAt_now, hc]
  · rw [gAt_next q]
theorem GrAt.put {g n k : Nat} {l : List UInt8} {w : World} {v : Int} (h : GrAt g n l k w) (hk : k < n) (hc : v = ((greatC (l.getD k 0)).toNat : Int)) : GrAt g n l (k + 1) (w.setCell ⟨g, k, none⟩ (.int .u8 v)) := by
  refine ⟨fun j hj => ?_, fun j hj => by rw [World.frozen?_setCell]; exact h.2 j hj⟩
  by_cases q : j = k
  · subst q
    rw [World.cell?_setCell_same (h := h.1 j hj), gAt_now, hc]
  · rw [World.cell?_setCell_other _ _ _ _ (by intro e; injection e with _ e2; exact q e2.symm), h.1 j hj, gAt_next q]
theorem great_no {c : UInt8} (h : c.toNat < 97 ∨ 122 < c.toNat) : greatC c = c := by unfold greatC; rw [if_neg (by omega)]
theorem great_yes {c : UInt8} (h : 97 ≤ c.toNat) (h' : c.toNat ≤ 122) : ((greatC c).toNat : Int) = (c.toNat : Int) - 32 := by
  unfold greatC
  rw [if_pos ⟨h, h'⟩, UInt8.toNat_ofNat', Nat.mod_eq_of_lt (by omega)]; omega
theorem bytes_frozen8 (w : World) (S : ByteArray) (j : Nat) (hj : j < S.size) : (Lib.bytesWorld w 5 S).frozen? ⟨w.heap.size, j, none⟩ = false := by
  have h := Lib.bytesWorld_at_new w 5 S
  have hs : S.size ≤ (Lib.bytesCells w 5 S).size := by
    unfold Lib.bytesCells
    rw [Array.size_append, Array.size_map]
    show S.data.size ≤ _
    omega
  simp only [World.frozen?, h]
  simp; omega
theorem GrAt.start (w : World) (S : ByteArray) : GrAt w.heap.size S.size S.data.toList 0 (Lib.bytesWorld w 5 S) := by
  refine ⟨fun j hj => ?_, fun j hj => bytes_frozen8 w S j hj⟩
  rw [Lib.bytesWorld_cell w 5 S j hj]
  unfold gAt
  rw [if_neg (by omega)]
theorem GrAt.done {g n cap : Nat} {S t : ByteArray} {w : World} (h : GrAt g n S.data.toList n w) (hn : n = S.size) (ht : t.data.toList = S.data.toList.map greatC) :
    (convert 32 9 (.slice (some ⟨g, 0, none⟩) n cap)).run Tryd.prog w = .ok (.string t) w := by
  have hl : t.data.toList.length = n := by rw [ht, List.length_map, len_listH, hn]
  have e := run_convert_bytes_back (P := Tryd.prog) w 32 9 5 ⟨g, 0, none⟩ cap t.data.toList Tryd.underlying32 Tryd.underlying5 Tryd.underlying9 (fun j hj => by
    rw [Lib.add_plain, Nat.zero_add, h.1 j (by omega)]
    unfold gAt
    have hj' : j < S.data.toList.length := by rw [len_listH]; omega
    rw [if_pos (by omega)]
    simp [ht, List.getD, List.getElem?_eq_getElem hj'])
  rw [hl] at e
  rw [e]

set_option maxHeartbeats 1000000 in
theorem great_any (s t : ByteArray) (w : World) (hs : s.size ≤ 1000000) (ht : t.data.toList = s.data.toList.map greatC) :
    Calls Tryd.prog 13 #[.string s] w fun e w' => e = .returned (.string t) ∧ Below w.heap.size w w' := by
  have hcv := bytes_of8 w s
  have hG := GrAt.start w s
  have hB0 := Lib.bytesWorld_below w 5 s
  have HT := Lib.hid ht
  clear ht
  obtain ⟨B, hB⟩ : ∃ B, w.heap.size = B := ⟨_, rfl⟩
  rw [hB] at hcv hG
  generalize grownCap w s.size 0 5 = cap at hcv
  go_enter Tryd.func13, Tryd.ntmps13
  go_wp2
  go_loopw [4] (fun i wr => ∃ k : Nat, k ≤ s.size ∧ i = .int .i64 k ∧ GrAt B s.size s.data.toList k wr ∧ Below w.heap.size w wr) (fun i _ => s.size - (intOf i).toNat)
  case atStart => exact ⟨0, Nat.zero_le _, rfl, hG, hB0⟩
  case round =>
    obtain ⟨k, hk, rfl, hGk, hBk⟩ := hrel
    by_cases hlt : k < s.size
    · have hc := hGk.1 k hlt
      have hf := hGk.2 k hlt
      rw [gAt_same] at hc
      obtain ⟨c, hcc⟩ : ∃ c, s.data.toList.getD k 0 = c := ⟨_, rfl⟩
      rw [hcc] at hc
      have hcl := c.toNat_lt
      by_cases h1 : c.toNat < 97
      · have HG := Lib.hid (hGk.keep hlt (by rw [hcc]; exact great_no (Or.inl h1)))
        clear hGk
        go_wp2
        go_roundw
        case rel => exact ⟨k + 1, by omega, by go_num, HG.out, hBk⟩
        case measure => simp [intOf]; omega
      · by_cases h2 : 122 < c.toNat
        · have HG := Lib.hid (hGk.keep hlt (by rw [hcc]; exact great_no (Or.inr h2)))
          clear hGk
          go_wp2
          go_roundw
          case rel => exact ⟨k + 1, by omega, by go_num, HG.out, hBk⟩
          case measure => simp [intOf]; omega
        · have HG := Lib.hid (hGk.put hlt (v := (c.toNat : Int) - 32) (by rw [hcc, great_yes (by omega) (by omega)]))
          have hB1 := hBk.setCell (p := ⟨B, k, none⟩) (by rw [hB]; exact Nat.le_refl _) (.int .u8 ((c.toNat : Int) - 32))
          clear hGk
          go_wp2
          go_roundw
          case rel => exact ⟨k + 1, by omega, by go_num, HG.out, hB1⟩
          case measure => simp [intOf]; omega
    · have : k = s.size := by omega
      subst this
      have hcv2 := hGk.done (cap := cap) rfl HT.out
      go_wp2
      go_ret
      exact ⟨rfl, hBk⟩
end Go.Proofs.YtcgaloaagalnbaaDoor
