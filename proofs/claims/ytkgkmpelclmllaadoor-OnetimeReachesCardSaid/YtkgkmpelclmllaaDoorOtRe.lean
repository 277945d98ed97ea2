/-
  OnetimeReaches, of any values.
-/
import Derived.Test.YtkgkmpelclmllaaDoorOtLB
namespace Go.Proofs.YtkgkmpelclmllaaDoor
open Go.RowKit

theorem reaches_any (pub msg : D4) (S : List D4) (p : Option Addr) (c : Nat) (w : World) (hpo : pub.ok) (hmo : msg.ok) (hSo : allD4 S) (hr : RdS w p S) (hc : S.length ≤ c) (hcm : c ≤ maxLen) (hT : TurnsOk w) : Calls Tryd.prog 6 #[.agg #[.int .u32 pub.d0, .int .u32 pub.d1, .int .u32 pub.d2, .int .u32 pub.d3], .agg #[.int .u32 msg.d0, .int .u32 msg.d1, .int .u32 msg.d2, .int .u32 msg.d3], .slice p S.length c] w fun e w' => e = .returned (.bool true) ∧ Below w.heap.size w w' := by
  rcases Nat.lt_or_ge 40 S.length with h | h
  · exact reaches_long pub msg p S.length c w hT h
  · exact reaches_walk pub msg S p S.length c w hpo hmo hSo rfl hr hc hcm hT h
end Go.Proofs.YtkgkmpelclmllaaDoor
