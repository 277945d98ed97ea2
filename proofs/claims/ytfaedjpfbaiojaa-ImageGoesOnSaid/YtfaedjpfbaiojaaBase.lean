/-
  What the texts of all layers share: the walk's parts, and a table in a package variable.
-/
import Derived.Test.YtfaedjpfbaiojaaProg
import Derived.Test.YtfaedjpfbaiojaaPlain
import Derived.WalkKit
import Derived.BigQuiet
import Derived.Deep.QuietTactic
import Derived.Lib.Hide
import Derived.OwnWalk
import Derived.WalkSmall
import Derived.Laws.IdiomStrings
import Derived.Outline
import Derived.Lib.LaidTab
namespace Go.Proofs.Ytfaedjpfbaiojaa
open Go.RowKit Go.Lib

theorem tab_low {w : World} {n : String} {k : IntKind} {zs : List Int} {g : Nat} (h : TabIs Try.prog w n k zs) (hg : Try.prog.globalNamed n = some g) : g < w.heap.size := by
  unfold TabIs World.var? at h
  simp only [hg, Option.bind_some] at h
  rcases Nat.lt_or_ge g w.heap.size with h' | h'
  · exact h'
  · rw [Array.getElem?_eq_none h'] at h; simp at h
theorem tab_below {w w' : World} {n : String} {k : IntKind} {zs : List Int} {g B : Nat} (h : TabIs Try.prog w n k zs) (hg : Try.prog.globalNamed n = some g) (hgB : g < B) (hB : Below B w w') : TabIs Try.prog w' n k zs := by
  unfold TabIs World.var? at *
  simp only [hg, Option.bind_some] at h ⊢
  rw [hB.block g hgB]
  exact h
end Go.Proofs.Ytfaedjpfbaiojaa
