/-
  KeysRow: the whole (written by gen_law67.py).
-/
import Derived.Test.YtdphhpmkcalahaaDoorKyX
import Derived.Test.YtdphhpmkcalahaaDoorKyY
import Derived.Deep.CutRange
import Derived.Deep.LoopGhost
import Derived.Deep.RegionHeld3
namespace Go.Proofs.YtdphhpmkcalahaaDoor
open Go.RowKit
theorem row_walk (s : D4) (b : Bool) (p : Option Addr) (l : List D4) (c : Nat) (w : World) (hs : s.ok) (hlo : allD4 l) (hrl : RdS w p l) (hc : l.length ≤ c) (hcm : c ≤ maxLen) (hT : TurnsOk w) :
    Calls Tryd.prog 7 #[.agg #[.int .u32 s.d0, .int .u32 s.d1, .int .u32 s.d2, .int .u32 s.d3], .bool b, .slice p l.length c] w fun e w' => e = .returned (.bool true) ∧ Below w.heap.size w w' := by
  rcases Nat.lt_or_ge 4 l.length with h | h
  · exact row_long s b p l.length c h w hT
  · cases b
    · exact row_low s l hs hlo p l.length c rfl hc hcm h w hrl hT
    · exact row_high s l hs hlo p l.length c rfl hc hcm h w hrl hT
end Go.Proofs.YtdphhpmkcalahaaDoor
