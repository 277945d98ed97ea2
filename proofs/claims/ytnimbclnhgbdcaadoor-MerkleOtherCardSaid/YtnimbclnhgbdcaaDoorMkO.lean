/-
  A proof that is used up from its end: the block that holds what is left; what a call leaves of it.
-/
import Derived.Test.YtnimbclnhgbdcaaDoorMkF
import Derived.Test.YtnimbclnhgbdcaaDoorMkM
namespace Go.Proofs.YtnimbclnhgbdcaaDoor
open Go.RowKit Go.Lib

/-- The block of what is left. -/
def restB (g : Nat) (v : Value) (s : Bool) (w : World) : Prop := w.heap[g]? = some (.cells #[v, .bool s] 54 (0, 0))
/-- Below block B the world is as it was, but for block g, which now holds this. -/
structure Rest (B g : Nat) (w w' : World) (v : Value) (s : Bool) : Prop where
  os : w'.os = w.os
  tape : w'.tape = w.tape
  output : w'.output = w.output
  size : w.heap.size ≤ w'.heap.size
  block : ∀ k, k < B → k ≠ g → w'.heap[k]? = w.heap[k]?
  here : restB g v s w'
theorem restB.lt {g : Nat} {v : Value} {s : Bool} {w : World} (h : restB g v s w) : g < w.heap.size := by
  rcases Nat.lt_or_ge g w.heap.size with q | q
  · exact q
  · unfold restB at h
    rw [Array.getElem?_eq_none q] at h
    cases h
theorem restB.cells {g : Nat} {v : Value} {s : Bool} {w : World} (h : restB g v s w) : w.cell? ⟨g, 0, none⟩ = some v ∧ w.cell? ⟨g, 1, none⟩ = some (.bool s) ∧ w.frozen? ⟨g, 0, none⟩ = false ∧ w.frozen? ⟨g, 1, none⟩ = false :=
  ⟨by rw [cell_of_row w g 0 _ _ _ h]; rfl, by rw [cell_of_row w g 1 _ _ _ h]; rfl, frozen_of_row w g 0 _ _ h, frozen_of_row w g 1 _ _ h⟩
theorem restB.on {g : Nat} {v : Value} {s : Bool} {w w' : World} {B : Nat} (h : restB g v s w) (hB : Below B w w') (hg : g < B) : restB g v s w' := by
  unfold restB
  rw [hB.block g hg]
  exact h
theorem restB.left {g : Nat} {v u : Value} {s : Bool} {w : World} (h : restB g v s w) : restB g u s (w.setCell ⟨g, 0, none⟩ u) := by
  have h' : w.heap[g]? = some (.cells #[v, .bool s] 54 (0, 0)) := h
  show (w.setCell ⟨g, 0, none⟩ u).heap[g]? = _
  simp only [World.setCell, Array.getElem?_modify, if_true, h', Option.map_some]
  rfl
theorem restB.short {g : Nat} {v : Value} {s t : Bool} {w : World} (h : restB g v s w) : restB g v t (w.setCell ⟨g, 1, none⟩ (.bool t)) := by
  have h' : w.heap[g]? = some (.cells #[v, .bool s] 54 (0, 0)) := h
  show (w.setCell ⟨g, 1, none⟩ (.bool t)).heap[g]? = _
  simp only [World.setCell, Array.getElem?_modify, if_true, h', Option.map_some]
  rfl
theorem restB.al {g : Nat} {v : Value} {s : Bool} {w : World} (h : restB g v s w) (o : Obj) : restB g v s (w.alloc o) := h.on ((Below.refl w.heap.size w).alloc (Nat.le_refl _) o) h.lt
theorem Rest.refl {B g : Nat} {w : World} {v : Value} {s : Bool} (h : restB g v s w) : Rest B g w w v s := ⟨rfl, rfl, rfl, Nat.le_refl _, fun _ _ _ => rfl, h⟩
theorem Rest.below {B B' g : Nat} {w w1 w2 : World} {v : Value} {s : Bool} (h : Rest B g w w1 v s) (k : Below B' w1 w2) (hB : B ≤ B') (hg : g < B') : Rest B g w w2 v s :=
  ⟨k.os.trans h.os, k.tape.trans h.tape, k.output.trans h.output, Nat.le_trans h.size k.size, fun i hi hne => (k.block i (by omega)).trans (h.block i hi hne), h.here.on k hg⟩
theorem Rest.trans {B B' g : Nat} {w w1 w2 : World} {v v' : Value} {s s' : Bool} (h : Rest B g w w1 v s) (k : Rest B' g w1 w2 v' s') (hB : B ≤ B') : Rest B g w w2 v' s' :=
  ⟨k.os.trans h.os, k.tape.trans h.tape, k.output.trans h.output, Nat.le_trans h.size k.size, fun i hi hne => (k.block i (by omega) hne).trans (h.block i hi hne), k.here⟩
theorem Rest.ofBelow {B g : Nat} {w w1 : World} {v : Value} {s : Bool} (k : Below B w w1) (h : restB g v s w1) : Rest B g w w1 v s := ⟨k.os, k.tape, k.output, k.size, fun i hi _ => k.block i hi, h⟩
theorem Rest.far {B g : Nat} {w w1 : World} {v : Value} {s : Bool} (h : Rest B g w w1 v s) {a : Addr} (ha : B ≤ a.block) (hne : a.block ≠ g) (u : Value) : Rest B g w (w1.setCell a u) v s :=
  ⟨h.os, h.tape, h.output, by simp [World.setCell]; exact h.size, fun i hi hi2 => by rw [Below.heap_setCell _ _ _ _ (by omega)]; exact h.block i hi hi2, by
    unfold restB
    rw [Below.heap_setCell _ _ _ _ (by omega)]
    exact h.here⟩
theorem Rest.al {B g : Nat} {w w1 : World} {v : Value} {s : Bool} (h : Rest B g w w1 v s) (hB : B ≤ w1.heap.size) (o : Obj) : Rest B g w (w1.alloc o) v s :=
  h.below ((Below.refl w1.heap.size w1).alloc (Nat.le_refl _) o) hB h.here.lt
theorem Rest.put4 {B g b : Nat} {w w1 : World} {v : Value} {s : Bool} (h : Rest B g w w1 v s) (hb : B ≤ b) (hne : b ≠ g) (d : D4) : Rest B g w ((((w1.setCell ⟨b, 0, none⟩ (.int .u32 d.d0)).setCell ⟨b, 1, none⟩ (.int .u32 d.d1)).setCell ⟨b, 2, none⟩ (.int .u32 d.d2)).setCell ⟨b, 3, none⟩ (.int .u32 d.d3)) v s :=
  (((h.far hb hne _).far hb hne _).far hb hne _).far hb hne _
theorem Rest.left {B g : Nat} {w w1 : World} {v : Value} {s : Bool} (h : Rest B g w w1 v s) (u : Value) : Rest B g w (w1.setCell ⟨g, 0, none⟩ u) u s :=
  ⟨h.os, h.tape, h.output, by simp [World.setCell]; exact h.size, fun i hi hi2 => by rw [Below.heap_setCell _ _ _ _ hi2]; exact h.block i hi hi2, h.here.left⟩
theorem Rest.short {B g : Nat} {w w1 : World} {v : Value} {s : Bool} (h : Rest B g w w1 v s) (t : Bool) : Rest B g w (w1.setCell ⟨g, 1, none⟩ (.bool t)) v t :=
  ⟨h.os, h.tape, h.output, by simp [World.setCell]; exact h.size, fun i hi hi2 => by rw [Below.heap_setCell _ _ _ _ hi2]; exact h.block i hi hi2, h.here.short⟩
theorem Arr.onR {κ : IntKind} {t : TypeId} {b g B : Nat} {L : List Int} {w w' : World} {v : Value} {s : Bool} (h : Arr κ t b L w) (hR : Rest B g w w' v s) (hb : b < B) (hne : b ≠ g) : Arr κ t b L w' := by
  unfold Arr at *
  rw [hR.block b hb hne]
  exact h
theorem dgAt.onR {w w' : World} {b o g B : Nat} {d : D4} {v : Value} {s : Bool} (h : dgAt w b o d) (hR : Rest B g w w' v s) (hb : b < B) (hne : b ≠ g) : dgAt w' b o d := by
  obtain ⟨h0, h1, h2, h3⟩ := h
  have e : ∀ j, w'.cell? ⟨b, j, none⟩ = w.cell? ⟨b, j, none⟩ := fun j => World.cell?_of_block (w := w) (hR.block b hb hne)
  exact ⟨by rw [e]; exact h0, by rw [e]; exact h1, by rw [e]; exact h2, by rw [e]; exact h3⟩
theorem RdL.onR {w w' : World} {b o g B : Nat} {l : List D4} {v : Value} {s : Bool} (h : RdL w b o l) (hR : Rest B g w w' v s) (hb : b < B) (hne : b ≠ g) : RdL w' b o l :=
  ⟨Nat.lt_of_lt_of_le h.1 hR.size, fun i hi => (h.2 i hi).onR hR hb hne⟩
/-- What is left lies in a block of its own. -/
def RdG (g : Nat) (w : World) (p : Option Addr) (l : List D4) : Prop := l ≠ [] → ∃ b o, p = some ⟨b, o, none⟩ ∧ b ≠ g ∧ RdL w b o l
theorem RdG.onR {w w' : World} {g : Nat} {p : Option Addr} {l : List D4} {v : Value} {s : Bool} (h : RdG g w p l) (hR : Rest w.heap.size g w w' v s) : RdG g w' p l := fun hne => by
  obtain ⟨b, o, e, hb, hr⟩ := h hne
  exact ⟨b, o, e, hb, hr.onR hR hr.1 hb⟩
theorem RdG.on {w w' : World} {g : Nat} {p : Option Addr} {l : List D4} (h : RdG g w p l) (hB : Below w.heap.size w w') : RdG g w' p l := fun hne => by
  obtain ⟨b, o, e, hb, hr⟩ := h hne
  exact ⟨b, o, e, hb, hr.on hB⟩
theorem RdG.init {w : World} {g : Nat} {p : Option Addr} {l : List D4} {x : D4} (h : RdG g w p (l ++ [x])) : RdG g w p l := fun _ => by
  obtain ⟨b, o, e, hb, hr⟩ := h (by simp)
  exact ⟨b, o, e, hb, hr.init⟩
theorem TurnsOk.onR {w w' : World} {g : Nat} {v : Value} {s : Bool} {B : Nat} (h : TurnsOk w) (hR : Rest B g w w' v s) (hB : w.heap.size ≤ B) {u : Value} {s0 : Bool} (h0 : restB g u s0 w) : TurnsOk w' := by
  have hlt := (show 0 < w.heap.size from tab_low h gTrn)
  have hne : 0 ≠ g := by
    intro e
    unfold TurnsOk Go.Lib.TabIs World.var? at h
    unfold restB at h0
    simp only [gTrn, Option.bind_some] at h
    rw [e, h0] at h
    have := congrArg (fun o : Option (Array Value) => (o.map Array.size)) h
    simp [trnTab] at this
  unfold TurnsOk Go.Lib.TabIs World.var? at h ⊢
  simp only [gTrn, Option.bind_some] at h ⊢
  rw [hR.block _ (by omega) hne]
  exact h
end Go.Proofs.YtnimbclnhgbdcaaDoor
