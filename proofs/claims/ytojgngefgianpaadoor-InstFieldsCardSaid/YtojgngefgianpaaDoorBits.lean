/-
  The contracts of the document's own operations bit by bit: a word's bits, the word of bits, both words bit by bit, a shift place by place, a truth value.
-/
import Derived.Test.YtojgngefgianpaaDoorProg
import Derived.Test.YtojgngefgianpaaDoorBitL
import Derived.WalkKit
import Derived.BigQuiet
import Derived.Deep.QuietTactic
import Derived.Outline
import Derived.Lib.Hide
import Derived.OwnWalk
namespace Go.Proofs.YtojgngefgianpaaDoor
open Go.RowKit

theorem ret_intB {k : IntKind} {a b : Int} (h : a = b) : Ending.returned (.int k a) = .returned (.int k b) := by rw [h]
theorem info_int : (Tryd.prog.info? 3).map (fun i => (i.zero, i.size, i.bytes)) = some (some (.int .i64 0), 1, 8) := by kernel_rfl

/-- A row of 32 numbers that the call owns, at an address. -/
def OwnsAt (B : Nat) (r : Value) (f : Nat → Int) (w : World) : Prop :=
  ∃ g cap, r = .slice (some ⟨g, 0, none⟩) 32 cap ∧ B ≤ g ∧ g < w.heap.size ∧ w.ownsRow B 3 1 (.slice (some ⟨g, 0, none⟩) 32 cap) 32 (rowF 32 f)
theorem ownsAt_of {B : Nat} {v : Value} {f : Nat → Int} {w : World} (h : w.ownsRow B 3 1 v 32 (rowF 32 f)) : OwnsAt B v f w := by
  have h0 := h
  rcases h.2 with ⟨_, h'⟩ | ⟨g, cap, cur, rfl, hb, hg, _⟩
  · omega
  · refine ⟨g, cap, rfl, hb, ?_, h0⟩
    rcases Nat.lt_or_ge g w.heap.size with q | q
    · exact q
    · rw [Array.getElem?_eq_none q] at hg; cases hg

set_option maxHeartbeats 1000000 in
set_option maxRecDepth 100000 in
theorem refBits_any (a : Int) (w : World) (ha : 0 ≤ a) (ha' : a < 4294967296) :
    Calls Tryd.prog 38 #[.int .u32 a] w fun e w' => ∃ r, e = .returned r ∧ OwnsAt w.heap.size r (bitF a.toNat) w' ∧ Below w.heap.size w w' := by
  obtain ⟨i0, hi, hz0, hz1, hz2⟩ := info_parts info_int
  go_enter Tryd.func38, Tryd.ntmps38
  go_wp2
  go_loopw [0, 3, 4] (fun s v i wr => ∃ (j : Nat) (y : Int), j ≤ 32 ∧ i = .int .i64 j ∧ s = .int .u32 y ∧ 0 ≤ y ∧ y < 4294967296 ∧ Hid (y = ((a.toNat / 2 ^ j : Nat) : Int)) ∧ wr.ownsRow w.heap.size 3 1 v j (rowF j (bitF a.toNat)) ∧ Below w.heap.size w wr) (fun _ _ i _ => 32 - (intOf i).toNat)
  case atStart => exact ⟨0, a, by omega, rfl, rfl, ha, ha', by show a = _; simp; omega, World.ownsRow_nil _ _ _ _, Below.refl _ _⟩
  case round =>
    obtain ⟨j, y, hj, rfl, rfl, hy0, hy1, HY, hown, hV⟩ := hrel
    by_cases hlt : j < 32
    · go_wp2_with (at_builtin; refine wpList_append_own _ rfl _ _ 66 rfl w.heap.size 3 i0 (.int .i64 0) 1 8 Tryd.underlying66 hi hz0 hz1 hz2 rfl (by decide) _ _ _ rfl (hown.alloc _) ⟨wr.heap.size, 0, none⟩ 1 1 [.int .i64 (y % 2)] rfl rfl ?c1 ?c2 ?c3 ?c4 ?c5 ?_)
      case c1 =>
        intro t u hu
        match t, hu with
        | 0, hu => simp at hu; subst hu; simp [Addr.add]
      case c2 => intro u hu; simp at hu; subst hu; rfl
      case c3 => unfold maxLen; omega
      case c4 => omega
      case c5 => have := hV.size; simp; omega
      intro v' w1 hown' hgrow _
      have hb : y % 2 = bitF a.toNat j := by rw [HY.out]; unfold bitF; omega
      have hV1 : Below w.heap.size w w1 := (hV.alloc hV.size _).grown hgrow (by have := hV.size; simp; omega) (fun k hk => (hown.lt k hk).1)
      rw [hb, ← rowF_snoc] at hown'
      clear hgrow hown hV hb
      go_wp2
      go_roundw
      case rel => exact ⟨j + 1, y / 2, by omega, by go_num, rfl, by omega, by omega, by rw [HY.out, ← div2_next]; simp [Hid], hown', hV1⟩
      case measure => simp [intOf]; omega
    · have : j = 32 := by omega
      subst this
      go_wp2
      go_ret
      exact ⟨_, rfl, ownsAt_of hown, hV⟩

set_option maxHeartbeats 400000 in
theorem refOf_any (z g cap : Nat) (w : World) (hz : z < 4294967296) (hc : ∀ t, t < 32 → w.cell? ⟨g, t, none⟩ = some (.int .i64 (bitF z t))) :
    Calls Tryd.prog 39 #[.slice (some ⟨g, 0, none⟩) 32 cap] w fun e w' => e = .returned (.int .u32 z) ∧ w = w' := by
  have HC := Lib.hid hc
  clear hc
  go_enter Tryd.func39, Tryd.ntmps39
  go_wp2
  go_loop [3, 4] (fun v i => ∃ (j : Nat) (y : Int), j ≤ 32 ∧ i = .int .i64 ((j : Int) - 1) ∧ v = .int .u64 y ∧ 0 ≤ y ∧ y < 4294967296 ∧ Hid (y = ((z / 2 ^ j : Nat) : Int))) (fun _ i => (intOf i + 1).toNat)
  case atStart => exact ⟨32, 0, by omega, rfl, rfl, by omega, by omega, by show (0 : Int) = _; rw [Nat.div_eq_of_lt hz]; rfl⟩
  case round =>
    obtain ⟨j, y, hj, rfl, rfl, hy0, hy1, HY⟩ := hrel
    cases j with
    | zero =>
      go_wp2
      go_ret
      exact ⟨ret_intB (by have h0 := HY.out; simp at h0; omega), rfl⟩
    | succ j =>
      have hcell := HC.out j (by omega)
      have hb := bitF_bd z j
      obtain ⟨b, hbe⟩ : ∃ b : Int, b = bitF z j := ⟨_, rfl⟩
      rw [← hbe] at hcell hb
      obtain ⟨hb0, hb1⟩ := hb
      have hyz : 2 * y + b = ((z / 2 ^ j : Nat) : Int) := by
        rw [HY.out, hbe]
        have := div2_step z j
        unfold bitF
        omega
      have hle : z / 2 ^ j ≤ z := Nat.div_le_self _ _
      have hy2 : 2 * y + b < 4294967296 := by omega
      have HN := Lib.hid hyz
      have HB := Lib.hid hbe
      clear hyz hbe hle
      have hjj : ((j + 1 : Nat) : Int) - 1 = (j : Int) := by omega
      go_wp2
      go_round
      case rel => exact ⟨j, 2 * y + b, by omega, rfl, rfl, by omega, hy2, HN.out⟩
      case measure => simp [intOf]

/-! A shift, place by place. -/
set_option maxHeartbeats 400000 in
theorem refShift_far (op a b : Int) (w : World) (hb : 32 ≤ b) :
    Calls Tryd.prog 33 #[.int .i64 op, .int .u32 a, .int .u32 b] w fun e w' => e = .returned (.int .u32 0) ∧ w = w' := by
  go_enter Tryd.func33, Tryd.ntmps33
  go_wp2
  go_ret
  exact ⟨rfl, rfl⟩
set_option maxHeartbeats 400000 in
theorem refShl_near (a b : Int) (w : World) (ha : 0 ≤ a) (ha' : a < 4294967296) (hb : 0 ≤ b) (hb' : b < 32) :
    Calls Tryd.prog 33 #[.int .i64 12, .int .u32 a, .int .u32 b] w fun e w' => e = .returned (.int .u32 (a * 2 ^ b.toNat % 4294967296)) ∧ w = w' := by
  go_enter Tryd.func33, Tryd.ntmps33
  go_wp2
  go_loop [7, 8] (fun v i => ∃ (j : Nat) (y : Int), (j : Int) ≤ b ∧ i = .int .u32 j ∧ v = .int .u64 y ∧ 0 ≤ y ∧ y < 4294967296 ∧ Hid (y = a * 2 ^ j % 4294967296)) (fun _ i => 32 - (intOf i).toNat)
  case atStart => exact ⟨0, a, by omega, rfl, rfl, ha, ha', by show a = _; rw [Int.pow_zero, Int.mul_one]; omega⟩
  case round =>
    obtain ⟨j, y, hj, rfl, rfl, hy0, hy1, HY⟩ := hrel
    by_cases hlt : (j : Int) < b
    · go_wp2
      go_round
      case rel => exact ⟨j + 1, 2 * y % 4294967296, by omega, by go_num, rfl, by omega, by omega, by rw [HY.out]; exact shl_step a j⟩
      case measure => simp [intOf]; omega
    · go_wp2
      go_ret
      exact ⟨ret_intB (by rw [HY.out, show b.toNat = j by omega]), rfl⟩
set_option maxHeartbeats 400000 in
theorem refShr_near (a b : Int) (w : World) (ha : 0 ≤ a) (ha' : a < 4294967296) (hb : 0 ≤ b) (hb' : b < 32) :
    Calls Tryd.prog 33 #[.int .i64 13, .int .u32 a, .int .u32 b] w fun e w' => e = .returned (.int .u32 (a / 2 ^ b.toNat)) ∧ w = w' := by
  go_enter Tryd.func33, Tryd.ntmps33
  go_wp2
  go_loop [7, 8] (fun v i => ∃ (j : Nat) (y : Int), (j : Int) ≤ b ∧ i = .int .u32 j ∧ v = .int .u64 y ∧ 0 ≤ y ∧ y < 4294967296 ∧ Hid (y = a / 2 ^ j)) (fun _ i => 32 - (intOf i).toNat)
  case atStart => exact ⟨0, a, by omega, rfl, rfl, ha, ha', by show a = _; simp⟩
  case round =>
    obtain ⟨j, y, hj, rfl, rfl, hy0, hy1, HY⟩ := hrel
    by_cases hlt : (j : Int) < b
    · go_wp2
      go_round
      case rel => exact ⟨j + 1, y / 2, by omega, by go_num, rfl, by omega, by omega, by rw [HY.out]; exact shr_step a j ha⟩
      case measure => simp [intOf]; omega
    · go_wp2
      go_ret
      exact ⟨ret_intB (by rw [HY.out, show b.toNat = j by omega]), rfl⟩
end Go.Proofs.YtojgngefgianpaaDoor
