/-
  The document's names and parts of operations (written by gen_in1.py).
-/
import Derived.Test.YtojgngefgianpaaDoorBase
namespace Go.Proofs.YtojgngefgianpaaDoor
open Go.RowKit

/-- The name of an operation. -/
def nameB : Int → ByteArray
  | 1 => ⟨#[108, 105]⟩
  | 2 => ⟨#[108, 117, 105]⟩
  | 3 => ⟨#[109, 111, 118]⟩
  | 4 => ⟨#[97, 100, 100]⟩
  | 5 => ⟨#[115, 117, 98]⟩
  | 6 => ⟨#[109, 117, 108]⟩
  | 7 => ⟨#[100, 105, 118]⟩
  | 8 => ⟨#[109, 111, 100]⟩
  | 9 => ⟨#[97, 110, 100]⟩
  | 10 => ⟨#[111, 114]⟩
  | 11 => ⟨#[120, 111, 114]⟩
  | 12 => ⟨#[115, 104, 108]⟩
  | 13 => ⟨#[115, 104, 114]⟩
  | 14 => ⟨#[108, 116]⟩
  | 15 => ⟨#[101, 113]⟩
  | 16 => ⟨#[108, 100]⟩
  | 17 => ⟨#[115, 116]⟩
  | 18 => ⟨#[106, 109, 112]⟩
  | 19 => ⟨#[106, 122]⟩
  | 20 => ⟨#[106, 110, 122]⟩
  | 21 => ⟨#[99, 97, 108, 108]⟩
  | 22 => ⟨#[114, 101, 116]⟩
  | 23 => ⟨#[103, 101, 116]⟩
  | 24 => ⟨#[112, 117, 116]⟩
  | 25 => ⟨#[99, 104, 107]⟩
  | 26 => ⟨#[104, 97, 108, 116]⟩
  | 27 => ⟨#[108, 100, 99]⟩
  | _ => ⟨#[]⟩
/-- The parts of an operation. -/
def partsB : Int → ByteArray
  | 1 => ⟨#[97, 99]⟩
  | 2 => ⟨#[97, 99]⟩
  | 3 => ⟨#[97, 98]⟩
  | 4 => ⟨#[97, 98, 114]⟩
  | 5 => ⟨#[97, 98, 114]⟩
  | 6 => ⟨#[97, 98, 114]⟩
  | 7 => ⟨#[97, 98, 114]⟩
  | 8 => ⟨#[97, 98, 114]⟩
  | 9 => ⟨#[97, 98, 114]⟩
  | 10 => ⟨#[97, 98, 114]⟩
  | 11 => ⟨#[97, 98, 114]⟩
  | 12 => ⟨#[97, 98, 114]⟩
  | 13 => ⟨#[97, 98, 114]⟩
  | 14 => ⟨#[97, 98, 114]⟩
  | 15 => ⟨#[97, 98, 114]⟩
  | 16 => ⟨#[97, 98, 99]⟩
  | 17 => ⟨#[97, 98, 99]⟩
  | 18 => ⟨#[99]⟩
  | 19 => ⟨#[97, 99]⟩
  | 20 => ⟨#[97, 99]⟩
  | 21 => ⟨#[97, 99]⟩
  | 22 => ⟨#[97]⟩
  | 23 => ⟨#[97]⟩
  | 24 => ⟨#[97]⟩
  | 25 => ⟨#[97, 99]⟩
  | 26 => ⟨#[]⟩
  | 27 => ⟨#[97, 98, 99]⟩
  | _ => ⟨#[63]⟩
theorem op_cases (op : Int) (h1 : 1 ≤ op) (h2 : op ≤ 27) : op = 1 ∨ op = 2 ∨ op = 3 ∨ op = 4 ∨ op = 5 ∨ op = 6 ∨ op = 7 ∨ op = 8 ∨ op = 9 ∨ op = 10 ∨ op = 11 ∨ op = 12 ∨ op = 13 ∨ op = 14 ∨ op = 15 ∨ op = 16 ∨ op = 17 ∨ op = 18 ∨ op = 19 ∨ op = 20 ∨ op = 21 ∨ op = 22 ∨ op = 23 ∨ op = 24 ∨ op = 25 ∨ op = 26 ∨ op = 27 := by omega
theorem nameB_no (op : Int) (h : op < 1 ∨ 27 < op) : nameB op = ⟨#[]⟩ := by
  unfold nameB
  split <;> first | rfl | omega
theorem partsB_no (op : Int) (h : op < 1 ∨ 27 < op) : partsB op = ⟨#[63]⟩ := by
  unfold partsB
  split <;> first | rfl | omega

set_option maxHeartbeats 8000000 in
set_option maxRecDepth 100000 in
theorem rname_any (op : Int) (w : World) : Calls Tryd.prog 20 #[.int .i64 op] w fun e w' => e = .returned (.string (nameB op)) ∧ w = w' := by
  by_cases h : op < 1 ∨ 27 < op
  · rw [nameB_no op h]
    rcases h with h | h
    all_goals
      have e1 : (op == (1 : Int)) = false := by simp; omega
      have e2 : (op == (2 : Int)) = false := by simp; omega
      have e3 : (op == (3 : Int)) = false := by simp; omega
      have e4 : (op == (4 : Int)) = false := by simp; omega
      have e5 : (op == (5 : Int)) = false := by simp; omega
      have e6 : (op == (6 : Int)) = false := by simp; omega
      have e7 : (op == (7 : Int)) = false := by simp; omega
      have e8 : (op == (8 : Int)) = false := by simp; omega
      have e9 : (op == (9 : Int)) = false := by simp; omega
      have e10 : (op == (10 : Int)) = false := by simp; omega
      have e11 : (op == (11 : Int)) = false := by simp; omega
      have e12 : (op == (12 : Int)) = false := by simp; omega
      have e13 : (op == (13 : Int)) = false := by simp; omega
      have e14 : (op == (14 : Int)) = false := by simp; omega
      have e15 : (op == (15 : Int)) = false := by simp; omega
      have e16 : (op == (16 : Int)) = false := by simp; omega
      have e17 : (op == (17 : Int)) = false := by simp; omega
      have e18 : (op == (18 : Int)) = false := by simp; omega
      have e19 : (op == (19 : Int)) = false := by simp; omega
      have e20 : (op == (20 : Int)) = false := by simp; omega
      have e21 : (op == (21 : Int)) = false := by simp; omega
      have e22 : (op == (22 : Int)) = false := by simp; omega
      have e23 : (op == (23 : Int)) = false := by simp; omega
      have e24 : (op == (24 : Int)) = false := by simp; omega
      have e25 : (op == (25 : Int)) = false := by simp; omega
      have e26 : (op == (26 : Int)) = false := by simp; omega
      have e27 : (op == (27 : Int)) = false := by simp; omega
    · 
      clear h
      go_enter Tryd.func20, Tryd.ntmps20
      go_wp2
      go_ret
      exact ⟨rfl, rfl⟩
    · 
      clear h
      go_enter Tryd.func20, Tryd.ntmps20
      go_wp2
      go_ret
      exact ⟨rfl, rfl⟩
  · rcases op_cases op (by omega) (by omega) with rfl | rfl | rfl | rfl | rfl | rfl | rfl | rfl | rfl | rfl | rfl | rfl | rfl | rfl | rfl | rfl | rfl | rfl | rfl | rfl | rfl | rfl | rfl | rfl | rfl | rfl | rfl
    all_goals
      go_enter Tryd.func20, Tryd.ntmps20
      go_wp2
      go_ret
      exact ⟨rfl, rfl⟩

set_option maxHeartbeats 8000000 in
set_option maxRecDepth 100000 in
theorem rparts_any (op : Int) (w : World) : Calls Tryd.prog 23 #[.int .i64 op] w fun e w' => e = .returned (.string (partsB op)) ∧ w = w' := by
  by_cases h : op < 1 ∨ 27 < op
  · rw [partsB_no op h]
    rcases h with h | h
    all_goals
      have e1 : (op == (1 : Int)) = false := by simp; omega
      have e2 : (op == (2 : Int)) = false := by simp; omega
      have e3 : (op == (3 : Int)) = false := by simp; omega
      have e4 : (op == (4 : Int)) = false := by simp; omega
      have e5 : (op == (5 : Int)) = false := by simp; omega
      have e6 : (op == (6 : Int)) = false := by simp; omega
      have e7 : (op == (7 : Int)) = false := by simp; omega
      have e8 : (op == (8 : Int)) = false := by simp; omega
      have e9 : (op == (9 : Int)) = false := by simp; omega
      have e10 : (op == (10 : Int)) = false := by simp; omega
      have e11 : (op == (11 : Int)) = false := by simp; omega
      have e12 : (op == (12 : Int)) = false := by simp; omega
      have e13 : (op == (13 : Int)) = false := by simp; omega
      have e14 : (op == (14 : Int)) = false := by simp; omega
      have e15 : (op == (15 : Int)) = false := by simp; omega
      have e16 : (op == (16 : Int)) = false := by simp; omega
      have e17 : (op == (17 : Int)) = false := by simp; omega
      have e18 : (op == (18 : Int)) = false := by simp; omega
      have e19 : (op == (19 : Int)) = false := by simp; omega
      have e20 : (op == (20 : Int)) = false := by simp; omega
      have e21 : (op == (21 : Int)) = false := by simp; omega
      have e22 : (op == (22 : Int)) = false := by simp; omega
      have e23 : (op == (23 : Int)) = false := by simp; omega
      have e24 : (op == (24 : Int)) = false := by simp; omega
      have e25 : (op == (25 : Int)) = false := by simp; omega
      have e26 : (op == (26 : Int)) = false := by simp; omega
      have e27 : (op == (27 : Int)) = false := by simp; omega
    · have d1 : decide ((4 : Int) ≤ op) = false := by simp; omega
      clear h
      go_enter Tryd.func23, Tryd.ntmps23
      go_wp2
      go_ret
      exact ⟨rfl, rfl⟩
    · have d1 : decide ((4 : Int) ≤ op) = true := by simp; omega
      have d2 : decide (op ≤ (15 : Int)) = false := by simp; omega
      clear h
      go_enter Tryd.func23, Tryd.ntmps23
      go_wp2
      go_ret
      exact ⟨rfl, rfl⟩
  · rcases op_cases op (by omega) (by omega) with rfl | rfl | rfl | rfl | rfl | rfl | rfl | rfl | rfl | rfl | rfl | rfl | rfl | rfl | rfl | rfl | rfl | rfl | rfl | rfl | rfl | rfl | rfl | rfl | rfl | rfl | rfl
    all_goals
      go_enter Tryd.func23, Tryd.ntmps23
      go_wp2
      go_ret
      exact ⟨rfl, rfl⟩

theorem rwithin_any (b : Bool) (n m : Int) (w : World) : Calls Tryd.prog 27 #[.bool b, .int .i64 n, .int .i64 m] w fun e w' => e = .returned (.bool (if b then decide (0 ≤ n) && decide (n ≤ m) else decide (n = 0))) ∧ w = w' := by
  have hb : (n == 0) = decide (n = 0) := by apply Bool.eq_iff_iff.mpr; simp
  obtain ⟨g0, hg0⟩ : ∃ g, decide (0 ≤ n) = g := ⟨_, rfl⟩
  cases b <;> cases g0
  all_goals
    go_enter Tryd.func27, Tryd.ntmps27
    go_wp2
    go_ret
    refine ⟨?_, rfl⟩
    simp_all
/-- Does a text have a letter? -/
def hasB (s : ByteArray) (c : Int) : Bool := s.data.toList.any fun x => (x.toNat : Int) == c
theorem any_take (s : ByteArray) (k : Nat) (h : k < s.size) (c : Int) : ((s.data.toList.take (k + 1)).any fun x => (x.toNat : Int) == c) = (((s.data.toList.take k).any fun x => (x.toNat : Int) == c) || ((s[k].toNat : Int) == c)) := by
  have hl : k < s.data.toList.length := by rw [Array.length_toList]; exact h
  rw [List.take_add_one, List.any_append, List.getElem?_eq_getElem hl]
  simp only [Option.toList_some, List.any_cons, List.any_nil, Bool.or_false]
  rfl
theorem has_full (s : ByteArray) (c : Int) : hasB s c = (s.data.toList.take s.size).any fun x => (x.toNat : Int) == c := by
  rw [List.take_of_length_le (by rw [Array.length_toList]; exact Nat.le_refl _)]; rfl
theorem has_yes (s : ByteArray) (k : Nat) (h : k < s.size) (c : Int) (hq : ((s[k].toNat : Int) == c) = true) : hasB s c = true := by
  unfold hasB
  rw [List.any_eq_true]
  have hl : k < s.data.toList.length := by rw [Array.length_toList]; exact h
  exact ⟨s.data.toList[k], List.getElem_mem hl, hq⟩
set_option maxHeartbeats 2000000 in
set_option maxRecDepth 100000 in
theorem rhas_any (s : ByteArray) (c : Int) (w : World) (hs : s.size ≤ 1000) : Calls Tryd.prog 26 #[.string s, .int .u8 c] w fun e w' => e = .returned (.bool (hasB s c)) ∧ w = w' := by
  go_enter Tryd.func26, Tryd.ntmps26
  go_wp2
  go_loop [5] (fun i => ∃ k : Nat, k ≤ s.size ∧ i = .int .i64 (k : Int) ∧ Hid ((s.data.toList.take k).any (fun x => (x.toNat : Int) == c) = false)) (fun i => s.size - (intOf i).toNat)
  case atStart => exact ⟨0, Nat.zero_le _, rfl, rfl⟩
  case round =>
    obtain ⟨k, hk, rfl, HK⟩ := hrel
    by_cases hlt : k < s.size
    · have hkd : decide ((k : Int) < (s.size : Int)) = true := by simp; omega
      have hk0 : (0 : Int) ≤ (k : Int) := by omega
      have hk1 : (k : Int) < (s.size : Int) := by omega
      cases hq : ((s[k].toNat : Int) == c)
      · have hq2 := Lib.hid hq
        go_wp2
        go_round
        case rel => exact ⟨k + 1, by omega, by go_num, by show _ = _; rw [any_take s k hlt c, HK.out, hq2.out]; rfl⟩
        case measure => simp [intOf]; omega
      · have hy := Lib.hid (has_yes s k hlt c hq)
        go_wp2
        go_ret
        exact ⟨by rw [hy.out]; rfl, rfl⟩
    · have hkn : k = s.size := by omega
      subst hkn
      have hno : Hid (hasB s c = false) := by show _ = _; rw [has_full]; exact HK.out
      go_wp2
      go_ret
      exact ⟨by rw [hno.out]; rfl, rfl⟩

end Go.Proofs.YtojgngefgianpaaDoor
