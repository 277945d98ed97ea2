/-
  OnetimeAhead, of any values.
-/
import Derived.Test.YtkgkmpelclmllaaDoorOtLD
namespace Go.Proofs.YtkgkmpelclmllaaDoor
open Go.RowKit

theorem ahead_any (msg other : D4) (p q : Option Addr) (sc tc : Nat) (S U : List D4) (w : World) (hmo : msg.ok) (hoo : other.ok) (hSo : allD4 S) (hrS : RdS w p S) (hsc : S.length ≤ sc) (hscm : sc ≤ maxLen) (hUo : allD4 U) (hrU : RdS w q U) (htc : U.length ≤ tc) (htcm : tc ≤ maxLen) (hT : TurnsOk w) : Calls Tryd.prog 9 #[.agg #[.int .u32 msg.d0, .int .u32 msg.d1, .int .u32 msg.d2, .int .u32 msg.d3, .int .u32 other.d0, .int .u32 other.d1, .int .u32 other.d2, .int .u32 other.d3, .slice p S.length sc, .slice q U.length tc]] w fun e w' => e = .returned (.bool true) ∧ Below w.heap.size w w' := by
  by_cases h : 40 < S.length ∨ 40 < U.length
  · exact ahead_long msg other p q S.length U.length sc tc w hT h
  · exact ahead_walk msg other S U p q S.length U.length sc tc w hmo hoo hSo hUo rfl rfl hrS hrU hsc hscm htc htcm hT (by omega) (by omega)
end Go.Proofs.YtkgkmpelclmllaaDoor
