/-
  The contract of the code's Parse of digits, at a seat that holds no Load.
-/
import Derived.Test.YtepcpjppogcjbaaDoorCHexJ
namespace Go.Proofs.YtepcpjppogcjbaaDoor
open Go.RowKit

theorem badP_no {l : List UInt8} {k : Nat} (h : badP l = k) (hk : k < l.length) : badP l < l.length := by omega
set_option maxHeartbeats 1000000 in
theorem hexParse_any (s : ByteArray) (w : World) (hs : s.size ≤ 1000000) (hL0 : HexOk w) :
    Calls Tryd.prog 37 #[.string s] w fun e w' => e = .returned (.tuple #[.string ⟨(pV s.data.toList).toArray⟩, .int .i64 (pI s.data.toList), .int .i64 (pE s.data.toList)]) ∧ Below w.heap.size w w' := by
  have HL := Lib.hid hL0.isIn
  clear hL0
  go_enter Tryd.func37, Tryd.ntmps37
  go_wp2_with fail
  go_loop [8] (fun i => ∃ k : Nat, k ≤ s.size ∧ i = .int .i64 k ∧ Hid (badP s.data.toList = k + badP (s.data.toList.drop k))) (fun i => s.size - (intOf i).toNat)
  case atStart => exact ⟨0, Nat.zero_le _, rfl, by show badP _ = _; simp⟩
  case round =>
    obtain ⟨k, hk, rfl, HB⟩ := hrel
    by_cases hlt : k < s.size
    · by_cases hd : dgt s[k] = 16
      · have HP := Lib.hid (parse_bad (l := s.data.toList) (by rw [bad_here hlt HB.out hd, len_listH]; exact hlt))
        have HK := Lib.hid (bad_here hlt HB.out hd)
        have HN := Lib.hid (hxB_no hd)
        clear hd
        go_wp2_with fail
        refine (isDigit_any w.heap.size s[k] _ HL.out).mono ?_
        rw [HN.out]
        rintro e w1 ⟨rfl, rfl⟩
        go_wp2_with fail
        go_ret3
        exact ⟨ret3_eq (by rw [HP.out.1]) (by rw [HP.out.2.1, HK.out]) (by rw [HP.out.2.2]), Below.refl _ _⟩
      · have HN := Lib.hid (bad_on hlt HB.out hd)
        have HY := Lib.hid (hxB_yes hd)
        clear hd
        go_wp2_with fail
        refine (isDigit_any w.heap.size s[k] _ HL.out).mono ?_
        rw [HY.out]
        rintro e w1 ⟨rfl, rfl⟩
        go_wp2_with fail
        go_round
        case rel => exact ⟨k + 1, by omega, by go_num, HN⟩
        case measure => simp [intOf]; omega
    · have hks : k = s.size := by omega
      subst hks
      have HA : Hid (badP s.data.toList = s.data.toList.length) := by
        have q := HB.out
        rw [List.drop_eq_nil_of_le (by rw [len_listH]; exact Nat.le_refl _)] at q
        show badP s.data.toList = s.data.toList.length
        rw [q, len_listH]; rfl
      by_cases hodd : s.size % 2 = 1
      · have HP := Lib.hid (parse_odd HA.out (by rw [len_listH]; exact hodd))
        have t1 : ((s.size : Int) % 2 != 0) = true := by simp; omega
        clear hodd
        go_wp2_with fail
        go_ret3
        exact ⟨ret3_eq (by rw [HP.out.1]) (by rw [HP.out.2.1, len_listH]) (by rw [HP.out.2.2]), Below.refl _ _⟩
      · have HP := Lib.hid (parse_even HA.out (by rw [len_listH]; omega))
        have HD := Lib.hid ((badP_all s.data.toList).mp HA.out)
        have HJ := Lib.hid (join_load s.data.toList HD.out)
        have t1 : ((s.size : Int) % 2 != 0) = false := by simp; omega
        clear hodd
        go_wp2_with fail
        refine (join_any s _ hs HL.out.1 HD.out).mono ?_
        rw [← HJ.out]
        rintro e w1 ⟨rfl, hW⟩
        go_wp2_with fail
        go_ret3
        exact ⟨ret3_eq (by rw [HP.out.1]; rfl) (by rw [HP.out.2.1]) (by rw [HP.out.2.2]), hW⟩
end Go.Proofs.YtepcpjppogcjbaaDoor
