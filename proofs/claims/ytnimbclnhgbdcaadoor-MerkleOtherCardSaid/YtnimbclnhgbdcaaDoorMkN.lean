/-
  The laying of math/bits.Len by hand; the half of a number as the code reckons it; a list parted in two.
-/
import Derived.Test.YtnimbclnhgbdcaaDoorProg
import Derived.Shelf.Small.Bits
import Derived.KernelRfl
import Derived.Test.YtnimbclnhgbdcaaDoorMkB
namespace Go.Proofs.YtnimbclnhgbdcaaDoor
open Go.Shelf Go.RowKit

def lay125_ren : Go.Shelf.Ren := ⟨fun | 125 => 59 | 128 => 66 | 129 => 67 | n => n, fun | 3 => 3 | 4 => 4 | 5 => 5 | 9 => 9 | 46 => 71 | 51 => 24 | 53 => 67 | n => n, fun | n => n⟩
theorem lay125 : Go.Proofs.Lays.n125 Tryd.prog lay125_ren := {
  mixed := by kernel_rfl
  f125 := Tryd.func59.trans (congrArg some (by kernel_rfl))
  f128 := Tryd.func66.trans (congrArg some (by kernel_rfl))
  f129 := Tryd.func67.trans (congrArg some (by kernel_rfl))
  t3 := Tryd.underlying3
  a3 := Tryd.isAgg3
  z3 := Tryd.sizeOf3
  v3 := Tryd.zeroValue3
  t4 := Tryd.underlying4
  a4 := Tryd.isAgg4
  z4 := Tryd.sizeOf4
  v4 := Tryd.zeroValue4
  t5 := Tryd.underlying5
  a5 := Tryd.isAgg5
  z5 := Tryd.sizeOf5
  v5 := Tryd.zeroValue5
  t9 := Tryd.underlying9
  a9 := Tryd.isAgg9
  z9 := Tryd.sizeOf9
  v9 := Tryd.zeroValue9
  t46 := Tryd.underlying71
  a46 := Tryd.isAgg71
  z46 := Tryd.sizeOf71
  v46 := Tryd.zeroValue71
  t51 := Tryd.underlying24
  a51 := Tryd.isAgg24
  z51 := Tryd.sizeOf24
  v51 := Tryd.zeroValue24
  t53 := Tryd.underlying67
  a53 := Tryd.isAgg67
  z53 := Tryd.sizeOf67
  v53 := Tryd.zeroValue67 }
theorem bitsLen_any (x : Int) (w : World) (h0 : 0 ≤ x) (h1 : x ≤ 18446744073709551615) :
    Calls Tryd.prog 59 #[.int .u64 x] w fun e w' => e = .returned (.int .i64 (Lib.bitLen x.toNat)) ∧ w' = w := Any.bits_Len lay125 x w h0 h1
theorem bitLenAux_log : ∀ (f x : Nat), x ≠ 0 → x < 2 ^ f → Lib.bitLenAux f x = x.log2 + 1
  | 0, x, h0, h => by simp at h; omega
  | f + 1, x, h0, h => by
    rw [Lib.bitLenAux, if_neg h0]
    by_cases q : x = 1
    · subst q
      cases f with
      | zero => rfl
      | succ g => rfl
    · rw [Nat.log2_def, if_pos (by omega), bitLenAux_log f (x / 2) (by omega) (by rw [Nat.pow_succ] at h; omega)]
      omega
theorem bitLen_log (x : Nat) (h0 : x ≠ 0) (h : x < 2 ^ 64) : Lib.bitLen x = x.log2 + 1 := bitLenAux_log 64 x h0 h
theorem pow_in : ∀ g : Nat, g < 20 → wrap64 ((2 : Int) ^ g) = ((2 ^ g : Nat) : Int) := by decide +kernel
set_option maxHeartbeats 1000000 in
set_option maxRecDepth 100000 in
theorem chalf_any (n : Nat) (w : World) (h2 : 2 ≤ n) (hn : n ≤ 1000000) : Calls Tryd.prog 49 #[.int .i64 (n : Int)] w fun e w' => e = .returned (.int .i64 (half n : Nat)) ∧ w' = w := by
  have hw : IntKind.i64.wrap ((n : Int) - 1) = ((n - 1 : Nat) : Int) := by rw [IntWalk.i64_in _ (by omega)]; omega
  have hwu : IntKind.u64.wrap ((n - 1 : Nat) : Int) = ((n - 1 : Nat) : Int) := by simp [IntKind.wrap, IntKind.bits, IntKind.signed]; omega
  obtain ⟨m, hm⟩ : ∃ m, n - 1 = m := ⟨_, rfl⟩
  rw [hm] at hw hwu
  have hb : Lib.bitLen m = m.log2 + 1 := bitLen_log m (by omega) (by omega)
  have hl : m.log2 < 20 := (Nat.log2_lt (by omega)).mpr (by omega)
  have hh : half n = 2 ^ m.log2 := by rw [half, hm]
  rw [hh]
  obtain ⟨g, hg⟩ : ∃ g, m.log2 = g := ⟨_, rfl⟩
  rw [hg] at hb hl ⊢
  clear hh hg
  go_enter Tryd.func49, Tryd.ntmps49
  go_wp2_with fail
  refine (bitsLen_any (m : Int) w (by omega) (by omega)).mono ?_
  rintro e w1 ⟨rfl, rfl⟩
  rw [Int.toNat_natCast, hb]
  go_wp2
  go_ret
  refine ⟨congrArg Ending.returned (congrArg (Value.int IntKind.i64) ?_), rfl⟩
  exact pow_in g hl
end Go.Proofs.YtnimbclnhgbdcaaDoor
