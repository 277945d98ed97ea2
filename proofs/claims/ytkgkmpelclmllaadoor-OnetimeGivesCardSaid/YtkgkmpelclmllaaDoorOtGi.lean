/-
  OnetimeGives, of any two messages.
-/
import Derived.Test.YtkgkmpelclmllaaDoorOtLF
namespace Go.Proofs.YtkgkmpelclmllaaDoor
open Go.RowKit

theorem gives_any (seed msg other : D4) (w : World) (hso : seed.ok) (hmo : msg.ok) (hoo : other.ok) (hT : TurnsOk w) : Calls Tryd.prog 8 #[.agg #[.int .u32 seed.d0, .int .u32 seed.d1, .int .u32 seed.d2, .int .u32 seed.d3], .agg #[.int .u32 msg.d0, .int .u32 msg.d1, .int .u32 msg.d2, .int .u32 msg.d3], .agg #[.int .u32 other.d0, .int .u32 other.d1, .int .u32 other.d2, .int .u32 other.d3]] w fun e w' => e = .returned (.bool true) ∧ Below w.heap.size w w' := by
  by_cases h : msg = other
  · subst h
    exact gives_same seed msg w hT
  · exact gives_walk seed msg other w hso hmo hoo hT h
end Go.Proofs.YtkgkmpelclmllaaDoor
