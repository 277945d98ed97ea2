/-
  The contracts of the layer's own Mix and Unmix, as the law's took takes them.
-/
import Derived.Test.YtepcpjppogcjbaaDoorDgF
namespace Go.Proofs.YtepcpjppogcjbaaDoor
open Go.RowKit

theorem digestMix_any (s : S8) (w : World) (hs : s.ok) (hL : DgOk w) : Calls Tryd.prog 12 #[s.val] w fun e w' => e = .returned (mixN 8 s).val ∧ Below w.heap.size w w' := cmix_any s w hs hL.1
theorem digestUnmix_any (s : S8) (w : World) (hs : s.ok) (hL : DgOk w) : Calls Tryd.prog 14 #[s.val] w fun e w' => e = .returned (unmN 8 s).val ∧ Below w.heap.size w w' := cunmix_any s w hs hL.1
end Go.Proofs.YtepcpjppogcjbaaDoor
