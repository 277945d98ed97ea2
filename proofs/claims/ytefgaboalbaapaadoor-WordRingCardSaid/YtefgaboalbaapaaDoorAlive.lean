/-
  The document's examples hold: alive answers true, whatever the memory.
-/
import Derived.Test.YtefgaboalbaapaaDoorApp
import Derived.Test.YtefgaboalbaapaaDoorNum
import Derived.Test.YtefgaboalbaapaaDoorTurn
import Derived.Test.YtefgaboalbaapaaDoorBytes
namespace Go.Proofs.YtefgaboalbaapaaDoor
open Go.RowKit

theorem ex_sub (w : World) : Calls Tryd.prog 12 #[.int .i64 5, .int .u32 0, .int .u32 1] w fun e w' => e = .returned (.tuple #[.int .u32 4294967295, .int .i64 0]) ∧ w = w' := by
  have h := apply_5 0 1 w (by decide) (by decide) (by decide) (by decide)
  rw [show ((0 : Int) - 1) % 4294967296 = 4294967295 by decide] at h
  exact h
theorem ex_shl (w : World) : Calls Tryd.prog 12 #[.int .i64 12, .int .u32 1, .int .u32 32] w fun e w' => e = .returned (.tuple #[.int .u32 0, .int .i64 0]) ∧ w = w' := by
  have h := apply_12 1 32 w (by decide) (by decide) (by decide) (by decide)
  rw [show ((1 : Int) * 2 ^ min (32 : Int).toNat 32 % 4294967296) = 0 by decide] at h
  exact h
theorem ex_parse (w : World) : Calls Tryd.prog 21 #[.string ⟨#[48, 48, 55]⟩] w fun e w' => e = .returned (.tuple #[.int .u32 0, .int .i64 3]) ∧ w = w' :=
  parse_no ⟨#[48, 48, 55]⟩ w (by decide) (by decide)
theorem ex_turn (w : World) : Calls Tryd.prog 14 #[.int .u32 2147483649, .int .i64 1] w fun e w' => e = .returned (.int .u32 3) ∧ w = w' := by
  have h := turn_any 2147483649 1 w (by decide) (by decide)
  rw [show rotI 2147483649 1 = 3 by decide] at h
  exact h
theorem ex_bytes (w : World) (a : Nat) (ha : a < w.heap.size) (hc : w.cell? ⟨a, 0, none⟩ = some (.int .u32 258)) :
    Calls Tryd.prog 16 #[.slice (some ⟨a, 0, none⟩) 1 1] w fun e w' => e = .returned (.string ⟨#[2, 1, 0, 0]⟩) ∧ Below w.heap.size w w' := by
  have h := bytes_any (some ⟨a, 0, none⟩) [258] 1 w (by decide) (fun k h => by
    have : k = 0 := by simp at h; omega
    subst this; exact ⟨(by decide : (0 : Int) ≤ 258), (by decide : (258 : Int) < 4294967296)⟩) (fun _ => ⟨a, 0, rfl, ha, fun k h => by
    have : k = 0 := by simp at h; omega
    subst this; exact hc⟩)
  exact h

set_option maxHeartbeats 400000 in
theorem alive_any (w : World) : Calls Tryd.prog 11 #[] w fun e w' => e = .returned (.bool true) ∧ Below w.heap.size w w' := by
  go_enter Tryd.func11, Tryd.ntmps11
  go_wp2_with fail
  refine (ex_sub _).mono ?_
  rintro e w1 ⟨rfl, rfl⟩
  go_wp2_with fail
  refine (ex_shl _).mono ?_
  rintro e w1 ⟨rfl, rfl⟩
  go_wp2_with fail
  refine (ex_parse _).mono ?_
  rintro e w1 ⟨rfl, rfl⟩
  go_wp2_with fail
  refine (ex_turn _).mono ?_
  rintro e w1 ⟨rfl, rfl⟩
  go_wp2_with fail
  refine (ex_bytes _ _ (by simp) ?_).mono ?_
  · simp
  rintro e w1 ⟨rfl, hB⟩
  go_wp2_with fail
  go_ret
  refine ⟨rfl, ?_⟩
  exact ((Below.refl _ _).alloc (Nat.le_refl _) _).trans (hB.mono (by simp))
end Go.Proofs.YtefgaboalbaapaaDoor
