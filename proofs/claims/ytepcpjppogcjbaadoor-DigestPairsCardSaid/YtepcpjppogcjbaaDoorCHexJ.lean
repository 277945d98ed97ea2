/-
  The contract of the joining of digits in pairs.
-/
import Derived.Test.YtepcpjppogcjbaaDoorCHexT
namespace Go.Proofs.YtepcpjppogcjbaaDoor
open Go.RowKit

/-- The bytes of pairs of digits. -/
def joinL : List UInt8 → List UInt8
  | a :: b :: r => UInt8.ofNat (16 * dgt a + dgt b) :: joinL r
  | _ => []
theorem join_load (l : List UInt8) (hl : ∀ c ∈ l, dgt c ≠ 16) : ldF false 16 l = joinL l := by
  induction l using joinL.induct with
  | case1 a b r ih =>
    have ha := hl a (by simp)
    have hb := hl b (by simp)
    rw [joinL, ldF, note_digit a ha, if_neg (by simp [ha]), if_pos rfl, ldF, note_digit b hb, if_neg (by simp [hb]), if_neg ha, ih (fun c hc => hl c (by simp [hc]))]
  | case2 l h =>
    match l, h, hl with
    | [], _, _ => rfl
    | [a], _, hl =>
      have ha := hl a (by simp)
      rw [ldF, note_digit a ha, if_neg (by simp [ha]), if_pos rfl]; rfl
    | a :: b :: r, h, _ => exact absurd rfl (h a b r)
theorem drop_two (s : ByteArray) (n : Nat) (h : n + 1 < s.size) : s.data.toList.drop n = s[n] :: s[n + 1] :: s.data.toList.drop (n + 2) := by
  rw [drop_one s n (by omega), drop_one s (n + 1) h]
theorem all_at {s : ByteArray} (h : ∀ c ∈ s.data.toList, dgt c ≠ 16) (n : Nat) (hn : n < s.size) : dgt s[n] ≠ 16 := h _ (by
  have : s[n] ∈ s.data.toList.drop n := by rw [drop_one s n hn]; simp
  exact List.mem_of_mem_drop this)
def JnAt (s : ByteArray) (n : Nat) (L : List UInt8) : Prop := 2 * L.length = n ∧ joinL s.data.toList = L ++ joinL (s.data.toList.drop n)
theorem JnAt.next {s : ByteArray} {n : Nat} {L : List UInt8} (q : JnAt s n L) (h : n + 1 < s.size) : JnAt s (n + 2) (L ++ [UInt8.ofNat (16 * dgt s[n] + dgt s[n + 1])]) := by
  refine ⟨by rw [List.length_append, List.length_singleton]; have := q.1; omega, ?_⟩
  rw [q.2, drop_two s n h, joinL]; simp
theorem JnAt.last {s : ByteArray} {n : Nat} {L : List UInt8} (q : JnAt s n L) (h : s.size ≤ n + 1) : joinL s.data.toList = L := by
  rw [q.2]
  have hl : (s.data.toList.drop n).length ≤ 1 := by rw [List.length_drop, len_listH]; omega
  match hd : s.data.toList.drop n, hl with
  | [], _ => simp [joinL]
  | [a], _ => simp [joinL]
theorem dgt_val {c : UInt8} (h : dgt c ≠ 16) : dgt c < 16 := by have := dgt_le c; omega
theorem two_digits : ∀ a : Nat, a < 16 → ∀ b : Nat, b < 16 → bits .or .u8 ((a : Int) * 16) (b : Int) = ((UInt8.ofNat (16 * a + b)).toNat : Int) := by decide +kernel

set_option maxHeartbeats 1000000 in
theorem join_any (s : ByteArray) (w : World) (hs : s.size ≤ 1000000) (hL0 : HexOk w) (hd : ∀ c ∈ s.data.toList, dgt c ≠ 16) :
    Calls Tryd.prog 50 #[.string s] w fun e w' => e = .returned (.string ⟨(joinL s.data.toList).toArray⟩) ∧ Below w.heap.size w w' := by
  have HL := Lib.hid hL0.isIn
  have HD := Lib.hid hd
  clear hL0 hd
  have HG := Lib.hid (growI ((s.size : Int) / 2) w.heap.size (w.alloc (.cells #[.pointer none, .slice none 0 0] 60)) (freshB w) (by simp) (by omega) (by omega))
  go_enter Tryd.func50, Tryd.ntmps50
  go_wp2_with fail
  refine (HG.out).mono ?_
  rintro e w1 ⟨rfl, hI1, hB1⟩
  have hW0 : Below w.heap.size w w1 := ((Below.refl _ w).alloc (Nat.le_refl _) _).trans hB1
  have hI0 : Lib.IsBuilder 60 5 w.heap.size w.heap.size (Lib.byteCells ([] : List UInt8)) w1 := Or.inr hI1
  clear hI1 hB1
  go_wp2_with fail
  go_loopw [4] (fun i wr => ∃ (n : Nat) (L : List UInt8), n ≤ s.size ∧ i = .int .i64 ((n : Int) + 1) ∧ Lib.IsBuilder 60 5 w.heap.size w.heap.size (Lib.byteCells L) wr ∧ Hid (JnAt s n L) ∧ Below w.heap.size w wr) (fun i _ => s.size + 1 - (intOf i).toNat)
  case atStart => exact ⟨0, [], Nat.zero_le _, rfl, hI0, ⟨rfl, rfl⟩, hW0⟩
  case round =>
    obtain ⟨n, L, hn, rfl, hI, HT, hW⟩ := hrel
    clear hI0 hW0
    have HI := Lib.hid hI
    clear hI
    by_cases hlt : n + 1 < s.size
    · have R0 := HT.out.next hlt
      have hd1 := all_at HD.out n (by omega)
      have hd2 := all_at HD.out (n + 1) hlt
      have hin := HL.out.below hW
      have c1 := hin.val s[n] (dgt_lt hd1)
      have c2 := hin.val s[n + 1] (dgt_lt hd2)
      rw [if_neg hd1] at c1
      rw [if_neg hd2] at c2
      have b1 := dgt_val hd1
      have b2 := dgt_val hd2
      have k0 : (0 : Int) ≤ (n : Int) := by omega
      have k1 : (n : Int) < (s.size : Int) := by omega
      have k2 : (0 : Int) ≤ (n : Int) + 1 := by omega
      have k3 : (n : Int) + 1 < (s.size : Int) := by omega
      have k4 : ((n : Int) + 1).toNat = n + 1 := by omega
      have q1 := dgt_lt hd1
      have q2 := dgt_lt hd2
      have m0 : (0 : Int) ≤ (s[n].toNat : Int) := by omega
      have m1 : (s[n].toNat : Int) < 103 := by omega
      have m2 : (0 : Int) ≤ (s[n + 1].toNat : Int) := by omega
      have m3 : (s[n + 1].toNat : Int) < 103 := by omega
      have e1 : IntKind.i64.wrap (n : Int) = (n : Int) := IntWalk.i64_in (n : Int) (by omega)
      have e2 : IntKind.u8.wrap (dgt s[n] : Int) = (dgt s[n] : Int) := IntWalk.u8_in (dgt s[n] : Int) ⟨by omega, by omega⟩
      have e3 : IntKind.u8.wrap (dgt s[n + 1] : Int) = (dgt s[n + 1] : Int) := IntWalk.u8_in (dgt s[n + 1] : Int) ⟨by omega, by omega⟩
      have e4 : IntKind.u8.wrap ((dgt s[n] : Int) * 16) = (dgt s[n] : Int) * 16 := IntWalk.u8_in ((dgt s[n] : Int) * 16) ⟨by omega, by omega⟩
      have e5 := two_digits (dgt s[n]) b1 (dgt s[n + 1]) b2
      obtain ⟨x, hx⟩ : ∃ x : UInt8, UInt8.ofNat (16 * dgt s[n] + dgt s[n + 1]) = x := ⟨_, rfl⟩
      rw [hx] at e5 R0
      have R := Lib.hid R0
      clear R0 hx
      go_wp2_with fail
      go_still_tail 15, (by kernel_rfl)
      change wpList _ _ _ _ _ wr.drew
      clear e2 e3 e4 e5 c1 c2
      have hWd : Below w.heap.size w wr.drew := hW.drew
      have HId : Hid (Lib.IsBuilder 60 5 w.heap.size w.heap.size (Lib.byteCells L) wr.drew) := HI.out
      generalize wr.drew = w2 at hWd HId ⊢
      clear hin HI hW
      go_wp2_with fail
      refine (writeByte_any w.heap.size w.heap.size (Lib.byteCells L) _ w2 HId.out (by rw [Lib.byteCells_length]; have := HT.out.1; omega) hWd.size).mono ?_
      rintro e w3 ⟨rfl, hI3, hB3⟩
      have HI3 := Lib.hid hI3
      clear hI3
      go_wp2_with fail
      go_roundw
      case rel => exact ⟨n + 2, _, by omega, by go_num, Or.inr (by have := HI3.out; simpa [Lib.byteCells] using this), R, hWd.trans hB3⟩
      case measure => simp [intOf]; omega
    · have HE := Lib.hid (HT.out.last (by omega))
      go_wp2_with fail
      refine (string_any w.heap.size w.heap.size L wr HI.out hW.size).mono ?_
      rintro e w2 ⟨rfl, hB2⟩
      go_wp2_with fail
      go_ret
      exact ⟨by rw [HE.out]; rfl, hW.trans hB2⟩
end Go.Proofs.YtepcpjppogcjbaaDoor
