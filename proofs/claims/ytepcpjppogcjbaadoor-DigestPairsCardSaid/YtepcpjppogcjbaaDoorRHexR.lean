/-
  The contract of the document's own Parse of hexadecimal texts.
-/
import Derived.Test.YtepcpjppogcjbaaDoorRHexL
namespace Go.Proofs.YtepcpjppogcjbaaDoor
open Go.RowKit

/-- What Parse answers: the bytes, the place, the error. -/
def pV (l : List UInt8) : List UInt8 := if badP l = l.length ∧ l.length % 2 = 0 then loadL l else []
def pI (l : List UInt8) : Int := if badP l < l.length then (badP l : Int) else if l.length % 2 = 1 then (l.length : Int) else 0
def pE (l : List UInt8) : Int := if badP l < l.length ∨ l.length % 2 = 1 then 3 else 0
theorem len_listH (s : ByteArray) : s.data.toList.length = s.size := by rw [Array.length_toList]; rfl
theorem parse_bad {l : List UInt8} (h : badP l < l.length) : pV l = [] ∧ pI l = (badP l : Int) ∧ pE l = 3 := by
  unfold pV pI pE
  rw [if_neg (by omega), if_pos h, if_pos (Or.inl h)]
  exact ⟨rfl, rfl, rfl⟩
theorem parse_odd {l : List UInt8} (h : badP l = l.length) (h' : l.length % 2 = 1) : pV l = [] ∧ pI l = (l.length : Int) ∧ pE l = 3 := by
  unfold pV pI pE
  rw [if_neg (by omega), if_neg (by omega), if_pos h', if_pos (Or.inr h')]
  exact ⟨rfl, rfl, rfl⟩
theorem parse_even {l : List UInt8} (h : badP l = l.length) (h' : l.length % 2 = 0) : pV l = loadL l ∧ pI l = 0 ∧ pE l = 0 := by
  unfold pV pI pE
  rw [if_pos ⟨h, h'⟩, if_neg (by omega), if_neg (by omega), if_neg (by omega)]
  exact ⟨rfl, rfl, rfl⟩
theorem bad_here {s : ByteArray} {k : Nat} (hk : k < s.size) (h : badP s.data.toList = k + badP (s.data.toList.drop k)) (hd : dgt s[k] = 16) : badP s.data.toList = k := by
  rw [h, drop_one s k hk, badP, if_pos hd]; rfl
theorem bad_on {s : ByteArray} {k : Nat} (hk : k < s.size) (h : badP s.data.toList = k + badP (s.data.toList.drop k)) (hd : dgt s[k] ≠ 16) : badP s.data.toList = (k + 1) + badP (s.data.toList.drop (k + 1)) := by
  rw [h, drop_one s k hk, badP, if_neg hd]; omega
theorem ret3_eq {a b : ByteArray} {c d e f : Int} (h : a = b) (h' : c = d) (h'' : e = f) : Ending.returned (.tuple #[.string a, .int .i64 c, .int .i64 e]) = .returned (.tuple #[.string b, .int .i64 d, .int .i64 f]) := by rw [h, h', h'']

set_option maxHeartbeats 2000000 in
theorem refParse_hex (s : ByteArray) (w : World) (hs : s.size ≤ 1000000) :
    Calls Tryd.prog 40 #[.string s] w fun e w' => e = .returned (.tuple #[.string ⟨(pV s.data.toList).toArray⟩, .int .i64 (pI s.data.toList), .int .i64 (pE s.data.toList)]) ∧ Below w.heap.size w w' := by
  go_enter Tryd.func40, Tryd.ntmps40
  go_wp2
  go_loop [5] (fun i => ∃ k : Nat, k ≤ s.size ∧ i = .int .i64 k ∧ Hid (badP s.data.toList = k + badP (s.data.toList.drop k))) (fun i => s.size - (intOf i).toNat)
  case atStart => exact ⟨0, Nat.zero_le _, rfl, by show badP _ = _; simp⟩
  case round =>
    obtain ⟨k, hk, rfl, HB⟩ := hrel
    by_cases hlt : k < s.size
    · obtain ⟨d, hd⟩ : ∃ d : Int, dI s[k] = d := ⟨_, rfl⟩
      have HD := Lib.hid hd
      clear hd
      by_cases hdn : d < 0
      · have HP := Lib.hid (parse_bad (l := s.data.toList) (by rw [bad_here hlt HB.out (dI_none (by rw [HD.out]; exact hdn)), len_listH]; exact hlt))
        have HK := Lib.hid (bad_here hlt HB.out (dI_none (by rw [HD.out]; exact hdn)))
        go_wp2_with fail
        refine (digit_any s[k] _).mono ?_
        rw [HD.out]
        rintro e w1 ⟨rfl, rfl⟩
        go_wp2_with fail
        go_ret3
        exact ⟨ret3_eq (by rw [HP.out.1]) (by rw [HP.out.2.1, HK.out]) (by rw [HP.out.2.2]), Below.refl _ _⟩
      · have hdp : 0 ≤ d := by omega
        clear hdn
        have HN := Lib.hid (bad_on hlt HB.out (dI_some (c := s[k]) (by rw [HD.out]; exact hdp)).1)
        go_wp2_with fail
        refine (digit_any s[k] _).mono ?_
        rw [HD.out]
        rintro e w1 ⟨rfl, rfl⟩
        go_wp2_with fail
        go_round
        case rel => exact ⟨k + 1, by omega, by go_num, HN⟩
        case measure => simp [intOf]; omega
    · have hks : k = s.size := by omega
      subst hks
      have HA : Hid (badP s.data.toList = s.data.toList.length) := by
        have q := HB.out
        rw [List.drop_eq_nil_of_le (by rw [len_listH]; exact Nat.le_refl _)] at q
        show badP s.data.toList = s.data.toList.length
        rw [q, len_listH]; rfl
      by_cases hodd : s.size % 2 = 1
      · have HP := Lib.hid (parse_odd HA.out (by rw [len_listH]; exact hodd))
        have t1 : ((s.size : Int) % 2 == 1) = true := by simp; omega
        clear hodd
        go_wp2_with fail
        go_ret3
        exact ⟨ret3_eq (by rw [HP.out.1]) (by rw [HP.out.2.1, len_listH]) (by rw [HP.out.2.2]), Below.refl _ _⟩
      · have HP := Lib.hid (parse_even HA.out (by rw [len_listH]; omega))
        have t1 : ((s.size : Int) % 2 == 1) = false := by simp; omega
        clear hodd
        go_wp2_with fail
        refine (refLoad_any s _ hs).mono ?_
        rintro e w1 ⟨rfl, hW⟩
        go_wp2_with fail
        go_ret3
        exact ⟨ret3_eq (by rw [HP.out.1]) (by rw [HP.out.2.1]) (by rw [HP.out.2.2]), hW⟩
end Go.Proofs.YtepcpjppogcjbaaDoor
