/-
  A block of cells told whole, whatever they hold: what a structure that was boxed, or a structure's result, is.
-/
import Derived.Test.YtfaedjpfbaiojaaBase
namespace Go.Proofs.Ytfaedjpfbaiojaa
open Go.RowKit

def Box (t : TypeId) (b : Nat) (vs : List Value) (w : World) : Prop := w.heap[b]? = some (.cells vs.toArray t (0, 0))
theorem Box.new (t : TypeId) (vs : List Value) (w : World) : Box t w.heap.size vs (w.alloc (.cells vs.toArray t)) := heap_alloc_new w _
theorem Box.cell {t : TypeId} {b : Nat} {vs : List Value} {w : World} (h : Box t b vs w) {j : Nat} {v : Value} (hj : vs[j]? = some v) : w.cell? ⟨b, j, none⟩ = some v := by
  rw [cell_of_row w b j _ _ _ h]
  simpa using hj
theorem Box.fz {t : TypeId} {b : Nat} {vs : List Value} {w : World} (h : Box t b vs w) (j : Nat) : w.frozen? ⟨b, j, none⟩ = false := frozen_of_row w b j _ t h
theorem Box.lt {t : TypeId} {b : Nat} {vs : List Value} {w : World} (h : Box t b vs w) : b < w.heap.size := by
  rcases Nat.lt_or_ge b w.heap.size with q | q
  · exact q
  · unfold Box at h
    rw [Array.getElem?_eq_none q] at h; cases h
theorem Box.set {t : TypeId} {b : Nat} {vs : List Value} {w : World} (h : Box t b vs w) (j : Nat) (v : Value) : Box t b (vs.set j v) (w.setCell ⟨b, j, none⟩ v) := by
  have := heap_setCell_same w b j _ _ v h
  unfold Box
  rw [this]
  simp
theorem Box.far {t : TypeId} {b : Nat} {vs : List Value} {w : World} (h : Box t b vs w) {a : Addr} (hne : b ≠ a.block) (v : Value) : Box t b vs (w.setCell a v) := by
  unfold Box
  rw [heap_setCell_other w a b v hne]
  exact h
theorem Box.thr {t : TypeId} {b B : Nat} {vs : List Value} {w w' : World} (h : Box t b vs w) (hB : Below B w w') (hb : b < B) : Box t b vs w' := by
  unfold Box
  rw [hB.block b hb]
  exact h
theorem Box.on {t : TypeId} {b : Nat} {vs : List Value} {w w' : World} (h : Box t b vs w) (hB : Below w.heap.size w w') : Box t b vs w' := h.thr hB h.lt
theorem Box.al {t : TypeId} {b : Nat} {vs : List Value} {w : World} (h : Box t b vs w) (o : Obj) : Box t b vs (w.alloc o) := h.on ((Below.refl _ w).alloc (Nat.le_refl _) o)
/-- Three cells, written. -/
theorem Box.put3 {t : TypeId} {b : Nat} {a0 a1 a2 : Value} {w : World} (h : Box t b [a0, a1, a2] w) (v0 v1 v2 : Value) : Box t b [v0, v1, v2] (((w.setCell ⟨b, 0, none⟩ v0).setCell ⟨b, 1, none⟩ v1).setCell ⟨b, 2, none⟩ v2) :=
  ((h.set 0 v0).set 1 v1).set 2 v2
/-- Six cells, written. -/
theorem Box.put6 {t : TypeId} {b : Nat} {a0 a1 a2 a3 a4 a5 : Value} {w : World} (h : Box t b [a0, a1, a2, a3, a4, a5] w) (v0 v1 v2 v3 v4 v5 : Value) : Box t b [v0, v1, v2, v3, v4, v5] ((((((w.setCell ⟨b, 0, none⟩ v0).setCell ⟨b, 1, none⟩ v1).setCell ⟨b, 2, none⟩ v2).setCell ⟨b, 3, none⟩ v3).setCell ⟨b, 4, none⟩ v4).setCell ⟨b, 5, none⟩ v5) :=
  (((((h.set 0 v0).set 1 v1).set 2 v2).set 3 v3).set 4 v4).set 5 v5
theorem below_put3 {B b : Nat} {w w' : World} (h : Below B w w') (hb : B ≤ b) (v0 v1 v2 : Value) : Below B w (((w'.setCell ⟨b, 0, none⟩ v0).setCell ⟨b, 1, none⟩ v1).setCell ⟨b, 2, none⟩ v2) :=
  ((h.setCell (p := ⟨b, 0, none⟩) hb _).setCell (p := ⟨b, 1, none⟩) hb _).setCell (p := ⟨b, 2, none⟩) hb _
theorem below_put6 {B b : Nat} {w w' : World} (h : Below B w w') (hb : B ≤ b) (v0 v1 v2 v3 v4 v5 : Value) : Below B w ((((((w'.setCell ⟨b, 0, none⟩ v0).setCell ⟨b, 1, none⟩ v1).setCell ⟨b, 2, none⟩ v2).setCell ⟨b, 3, none⟩ v3).setCell ⟨b, 4, none⟩ v4).setCell ⟨b, 5, none⟩ v5) :=
  (((((h.setCell (p := ⟨b, 0, none⟩) hb _).setCell (p := ⟨b, 1, none⟩) hb _).setCell (p := ⟨b, 2, none⟩) hb _).setCell (p := ⟨b, 3, none⟩) hb _).setCell (p := ⟨b, 4, none⟩) hb _).setCell (p := ⟨b, 5, none⟩) hb _
theorem Box.c3 {t : TypeId} {b : Nat} {a0 a1 a2 : Value} {w : World} (h : Box t b [a0, a1, a2] w) : w.cell? ⟨b, 0, none⟩ = some a0 ∧ w.cell? ⟨b, 1, none⟩ = some a1 ∧ w.cell? ⟨b, 2, none⟩ = some a2 := ⟨h.cell rfl, h.cell rfl, h.cell rfl⟩
theorem Box.c6 {t : TypeId} {b : Nat} {a0 a1 a2 a3 a4 a5 : Value} {w : World} (h : Box t b [a0, a1, a2, a3, a4, a5] w) : w.cell? ⟨b, 0, none⟩ = some a0 ∧ w.cell? ⟨b, 1, none⟩ = some a1 ∧ w.cell? ⟨b, 2, none⟩ = some a2 ∧ w.cell? ⟨b, 3, none⟩ = some a3 ∧ w.cell? ⟨b, 4, none⟩ = some a4 ∧ w.cell? ⟨b, 5, none⟩ = some a5 := ⟨h.cell rfl, h.cell rfl, h.cell rfl, h.cell rfl, h.cell rfl, h.cell rfl⟩
end Go.Proofs.Ytfaedjpfbaiojaa
