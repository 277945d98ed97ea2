/-
  Whole states and whole digests, held against each other.
-/
import Derived.Test.YtepcpjppogcjbaaDoorDgX
import Derived.ChangeKeysEq
namespace Go.Proofs.YtepcpjppogcjbaaDoor
open Go.RowKit

def sameD (c d : D4) : Bool := c.d0 == d.d0 && (c.d1 == d.d1 && (c.d2 == d.d2 && c.d3 == d.d3))
def sameS (c d : S8) : Bool := c.x0 == d.x0 && (c.x1 == d.x1 && (c.x2 == d.x2 && (c.x3 == d.x3 && (c.x4 == d.x4 && (c.x5 == d.x5 && (c.x6 == d.x6 && c.x7 == d.x7))))))
theorem sameD_iff (c d : D4) : sameD c d = true ↔ c = d := by
  cases c; cases d
  simp [sameD]
theorem sameS_iff (c d : S8) : sameS c d = true ↔ c = d := by
  cases c; cases d
  simp [sameS]
theorem eqD_run (c d : D4) (w : World) : Sem.run Tryd.prog (Op.equalIn 10000 29 (.agg #[.int .u32 c.d0, .int .u32 c.d1, .int .u32 c.d2, .int .u32 c.d3]) (.agg #[.int .u32 d.d0, .int .u32 d.d1, .int .u32 d.d2, .int .u32 d.d3])) w = Result.ok (sameD c d) w := by
  obtain ⟨i, hi, _⟩ := info_parts (show (Tryd.prog.info? 22).map (fun i => (i.zero, i.size, i.bytes)) = some (some (.int .u32 0), 1, 4) by kernel_rfl)
  rw [run_equalIn_array (P := Tryd.prog) (w := w) 9999 _ _ Tryd.underlying29 hi]
  rw [show Tryd.prog.cellsOf 22 = 1 by kernel_rfl]
  simp [Op.eqItems, List.range, List.range.loop, go_sem, part]
  unfold sameD
  repeat' split
  all_goals simp_all
theorem eqD_yes (d : D4) (w : World) : Sem.run Tryd.prog (Op.equalIn 10000 29 (.agg #[.int .u32 d.d0, .int .u32 d.d1, .int .u32 d.d2, .int .u32 d.d3]) (.agg #[.int .u32 d.d0, .int .u32 d.d1, .int .u32 d.d2, .int .u32 d.d3])) w = Result.ok true w := by
  rw [eqD_run, (sameD_iff d d).mpr rfl]
theorem eqS_run (c d : S8) (w : World) : Sem.run Tryd.prog (Op.equalIn 10000 23 (.agg #[.int .u32 c.x0, .int .u32 c.x1, .int .u32 c.x2, .int .u32 c.x3, .int .u32 c.x4, .int .u32 c.x5, .int .u32 c.x6, .int .u32 c.x7]) (.agg #[.int .u32 d.x0, .int .u32 d.x1, .int .u32 d.x2, .int .u32 d.x3, .int .u32 d.x4, .int .u32 d.x5, .int .u32 d.x6, .int .u32 d.x7])) w = Result.ok (sameS c d) w := by
  obtain ⟨i, hi, _⟩ := info_parts (show (Tryd.prog.info? 22).map (fun i => (i.zero, i.size, i.bytes)) = some (some (.int .u32 0), 1, 4) by kernel_rfl)
  rw [run_equalIn_array (P := Tryd.prog) (w := w) 9999 _ _ Tryd.underlying23 hi]
  rw [show Tryd.prog.cellsOf 22 = 1 by kernel_rfl]
  simp [Op.eqItems, List.range, List.range.loop, go_sem, part]
  unfold sameS
  repeat' split
  all_goals simp_all
theorem eqS_yes (d : S8) (w : World) : Sem.run Tryd.prog (Op.equalIn 10000 23 (.agg #[.int .u32 d.x0, .int .u32 d.x1, .int .u32 d.x2, .int .u32 d.x3, .int .u32 d.x4, .int .u32 d.x5, .int .u32 d.x6, .int .u32 d.x7]) (.agg #[.int .u32 d.x0, .int .u32 d.x1, .int .u32 d.x2, .int .u32 d.x3, .int .u32 d.x4, .int .u32 d.x5, .int .u32 d.x6, .int .u32 d.x7])) w = Result.ok true w := by
  rw [eqS_run, (sameS_iff d d).mpr rfl]
theorem eqS_no {c d : S8} (h : c ≠ d) (w : World) : Sem.run Tryd.prog (Op.equalIn 10000 23 (.agg #[.int .u32 c.x0, .int .u32 c.x1, .int .u32 c.x2, .int .u32 c.x3, .int .u32 c.x4, .int .u32 c.x5, .int .u32 c.x6, .int .u32 c.x7]) (.agg #[.int .u32 d.x0, .int .u32 d.x1, .int .u32 d.x2, .int .u32 d.x3, .int .u32 d.x4, .int .u32 d.x5, .int .u32 d.x6, .int .u32 d.x7])) w = Result.ok false w := by
  rw [eqS_run]
  cases q : sameS c d with
  | false => rfl
  | true => exact absurd ((sameS_iff c d).mp q) h
end Go.Proofs.YtepcpjppogcjbaaDoor
