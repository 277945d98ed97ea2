/-
  The code's Root, Prove, Check.
-/
import Derived.Test.YtdphhpmkcalahaaDoorMkC1
import Derived.Test.YtdphhpmkcalahaaDoorProg
import Derived.Shelf.Small.Bits
import Derived.KernelRfl
namespace Go.Proofs.YtdphhpmkcalahaaDoor

section
/-! Plain mathematics of a proof that is used up from its end: what is taken, what the roots are that come of it, and that it tells what the document's way of reading tells. No program is named here. -/
section
variable {α : Type} (P : α → α → α) (z : α)
/-- The last one that is left (the list stands from its end); true: more was taken than there was. -/
def takeR (p : List α) (s : Bool) : α × List α × Bool :=
  match p with
  | [] => (z, [], true)
  | a :: r => (a, r, s)
def rootR (n i : Nat) (leaf : α) (p : List α) (s : Bool) : α × List α × Bool :=
  if h : n ≤ 1 then (leaf, p, s)
  else
    have : half n < n := half_lt (by omega)
    have := half_pos n
    if i < half n then
      (P (rootR (half n) i leaf (takeR z p s).2.1 (takeR z p s).2.2).1 (takeR z p s).1, (rootR (half n) i leaf (takeR z p s).2.1 (takeR z p s).2.2).2)
    else
      (P (takeR z p s).1 (rootR (n - half n) (i - half n) leaf (takeR z p s).2.1 (takeR z p s).2.2).1, (rootR (n - half n) (i - half n) leaf (takeR z p s).2.1 (takeR z p s).2.2).2)
termination_by n
decreasing_by
  all_goals omega
theorem rootR_one {n : Nat} (h : n ≤ 1) (i : Nat) (leaf : α) (p : List α) (s : Bool) : rootR P z n i leaf p s = (leaf, p, s) := by rw [rootR, dif_pos h]
theorem rootR_left {n i : Nat} (h : ¬ n ≤ 1) (hi : i < half n) (leaf : α) (p : List α) (s : Bool) : rootR P z n i leaf p s = (P (rootR P z (half n) i leaf (takeR z p s).2.1 (takeR z p s).2.2).1 (takeR z p s).1, (rootR P z (half n) i leaf (takeR z p s).2.1 (takeR z p s).2.2).2) := by
  rw [rootR, dif_neg h]; exact if_pos hi
theorem rootR_right {n i : Nat} (h : ¬ n ≤ 1) (hi : ¬ i < half n) (leaf : α) (p : List α) (s : Bool) : rootR P z n i leaf p s = (P (takeR z p s).1 (rootR P z (n - half n) (i - half n) leaf (takeR z p s).2.1 (takeR z p s).2.2).1, (rootR P z (n - half n) (i - half n) leaf (takeR z p s).2.1 (takeR z p s).2.2).2) := by
  rw [rootR, dif_neg h]; exact if_neg hi
theorem takeR_short (p : List α) : (takeR z p true).2.2 = true := by cases p <;> rfl
theorem rootR_short : ∀ (n : Nat) (i : Nat) (leaf : α) (p : List α), (rootR P z n i leaf p true).2.2 = true := by
  intro n
  induction n using Nat.strongRecOn with
  | _ n ih =>
    intro i leaf p
    by_cases h : n ≤ 1
    · rw [rootR_one P z h]
    · have h1 := half_lt (show 2 ≤ n by omega)
      have h2 := half_pos n
      by_cases k : i < half n
      · rw [rootR_left P z h k, takeR_short]; exact ih _ h1 _ _ _
      · rw [rootR_right P z h k, takeR_short]; exact ih _ (by omega) _ _ _
/-- What is used up tells what the document's way of reading tells. -/
theorem rootR_up : ∀ (n : Nat) (i : Nat) (leaf : α) (p : List α) (s : Bool), ((upR P n i leaf p).2 = true → rootR P z n i leaf p s = ((upR P n i leaf p).1, [], s)) ∧ ((upR P n i leaf p).2 = false → (rootR P z n i leaf p s).2.1 ≠ [] ∨ (rootR P z n i leaf p s).2.2 = true) := by
  intro n
  induction n using Nat.strongRecOn with
  | _ n ih =>
    intro i leaf p s
    by_cases h : n ≤ 1
    · rw [rootR_one P z h]
      cases p with
      | nil => simp [upR, h]
      | cons a r => simp [upR, h]
    · have h1 := half_lt (show 2 ≤ n by omega)
      have h2 := half_pos n
      cases p with
      | nil =>
        refine ⟨fun q => by simp [upR, h] at q, fun _ => Or.inr ?_⟩
        by_cases k : i < half n
        · rw [rootR_left P z h k]; exact rootR_short P z _ _ _ _
        · rw [rootR_right P z h k]; exact rootR_short P z _ _ _ _
      | cons a r =>
        by_cases k : i < half n
        · rw [rootR_left P z h k]
          have e : upR P n i leaf (a :: r) = (P (upR P (half n) i leaf r).1 a, (upR P (half n) i leaf r).2) := by rw [upR, if_neg h, if_pos k]
          rw [e]
          obtain ⟨g1, g2⟩ := ih (half n) h1 i leaf r s
          exact ⟨fun q => by show (P (rootR P z (half n) i leaf r s).1 a, (rootR P z (half n) i leaf r s).2) = _; rw [g1 q], g2⟩
        · rw [rootR_right P z h k]
          have e : upR P n i leaf (a :: r) = (P a (upR P (n - half n) (i - half n) leaf r).1, (upR P (n - half n) (i - half n) leaf r).2) := by rw [upR, if_neg h, if_neg k]
          rw [e]
          obtain ⟨g1, g2⟩ := ih (n - half n) (by omega) (i - half n) leaf r s
          exact ⟨fun q => by show (P a (rootR P z (n - half n) (i - half n) leaf r s).1, (rootR P z (n - half n) (i - half n) leaf r s).2) = _; rw [g1 q], g2⟩
/-- Both roots, of a proof that is used up from its end. -/
def rootsR (old : α) (m n : Nat) (whole : Bool) (p : List α) (s : Bool) : α × α × List α × Bool :=
  if h : m = n ∨ n ≤ 1 then (if whole then (old, old, p, s) else ((takeR z p s).1, (takeR z p s).1, (takeR z p s).2))
  else
    have : half n < n := half_lt (by omega)
    have := half_pos n
    if m ≤ half n then
      ((rootsR old m (half n) whole (takeR z p s).2.1 (takeR z p s).2.2).1, P (rootsR old m (half n) whole (takeR z p s).2.1 (takeR z p s).2.2).2.1 (takeR z p s).1, (rootsR old m (half n) whole (takeR z p s).2.1 (takeR z p s).2.2).2.2)
    else
      (P (takeR z p s).1 (rootsR old (m - half n) (n - half n) false (takeR z p s).2.1 (takeR z p s).2.2).1, P (takeR z p s).1 (rootsR old (m - half n) (n - half n) false (takeR z p s).2.1 (takeR z p s).2.2).2.1, (rootsR old (m - half n) (n - half n) false (takeR z p s).2.1 (takeR z p s).2.2).2.2)
termination_by n
decreasing_by
  all_goals omega
theorem rootsR_whole (old : α) (n : Nat) (p : List α) (s : Bool) : rootsR P z old n n true p s = (old, old, p, s) := by rw [rootsR, dif_pos (Or.inl rfl)]; rfl
theorem rootsR_cut (old : α) (n : Nat) (p : List α) (s : Bool) : rootsR P z old n n false p s = ((takeR z p s).1, (takeR z p s).1, (takeR z p s).2) := by rw [rootsR, dif_pos (Or.inl rfl)]; rfl
theorem rootsR_left {m n : Nat} (h : ¬ (m = n ∨ n ≤ 1)) (hm : m ≤ half n) (old : α) (whole : Bool) (p : List α) (s : Bool) : rootsR P z old m n whole p s =
      ((rootsR P z old m (half n) whole (takeR z p s).2.1 (takeR z p s).2.2).1, P (rootsR P z old m (half n) whole (takeR z p s).2.1 (takeR z p s).2.2).2.1 (takeR z p s).1, (rootsR P z old m (half n) whole (takeR z p s).2.1 (takeR z p s).2.2).2.2) := by
  rw [rootsR, dif_neg h]; exact if_pos hm
theorem rootsR_right {m n : Nat} (h : ¬ (m = n ∨ n ≤ 1)) (hm : ¬ m ≤ half n) (old : α) (whole : Bool) (p : List α) (s : Bool) : rootsR P z old m n whole p s =
      (P (takeR z p s).1 (rootsR P z old (m - half n) (n - half n) false (takeR z p s).2.1 (takeR z p s).2.2).1, P (takeR z p s).1 (rootsR P z old (m - half n) (n - half n) false (takeR z p s).2.1 (takeR z p s).2.2).2.1, (rootsR P z old (m - half n) (n - half n) false (takeR z p s).2.1 (takeR z p s).2.2).2.2) := by
  rw [rootsR, dif_neg h]; exact if_neg hm
theorem rootsR_short : ∀ (n : Nat) (m : Nat) (old : α) (whole : Bool) (p : List α), (rootsR P z old m n whole p true).2.2.2 = true := by
  intro n
  induction n using Nat.strongRecOn with
  | _ n ih =>
    intro m old whole p
    by_cases h : m = n ∨ n ≤ 1
    · rw [rootsR, dif_pos h]
      cases whole
      · exact takeR_short z p
      · rfl
    · have h1 := half_lt (show 2 ≤ n by omega)
      have h2 := half_pos n
      by_cases k : m ≤ half n
      · rw [rootsR_left P z h k, takeR_short]; exact ih _ h1 _ _ _ _
      · rw [rootsR_right P z h k, takeR_short]; exact ih _ (by omega) _ _ _ _
theorem rootsR_on : ∀ (n : Nat) (m : Nat) (old : α) (whole : Bool) (p : List α) (s : Bool), 1 ≤ m → m ≤ n → ((onR P old m n whole p).2.2 = true → rootsR P z old m n whole p s = ((onR P old m n whole p).1, (onR P old m n whole p).2.1, [], s)) ∧ ((onR P old m n whole p).2.2 = false → (rootsR P z old m n whole p s).2.2.1 ≠ [] ∨ (rootsR P z old m n whole p s).2.2.2 = true) := by
  intro n
  induction n using Nat.strongRecOn with
  | _ n ih =>
    intro m old whole p s hm1 hmn
    by_cases h : m = n
    · subst h
      cases whole with
      | true =>
        rw [rootsR_whole]
        cases p with
        | nil => simp [onR]
        | cons a r => simp [onR]
      | false =>
        rw [rootsR_cut]
        cases p with
        | nil => simp [onR, takeR]
        | cons a r =>
          cases r with
          | nil => simp [onR, takeR]
          | cons b t => simp [onR, takeR]
    · have h' : ¬ (m = n ∨ n ≤ 1) := by omega
      have h1 := half_lt (show 2 ≤ n by omega)
      have h2 := half_pos n
      cases p with
      | nil =>
        refine ⟨fun q => by simp [onR, h] at q, fun _ => Or.inr ?_⟩
        by_cases k : m ≤ half n
        · rw [rootsR_left P z h' k]; exact rootsR_short P z _ _ _ _ _
        · rw [rootsR_right P z h' k]; exact rootsR_short P z _ _ _ _ _
      | cons a r =>
        by_cases k : m ≤ half n
        · rw [rootsR_left P z h' k]
          have e : onR P old m n whole (a :: r) = ((onR P old m (half n) whole r).1, P (onR P old m (half n) whole r).2.1 a, (onR P old m (half n) whole r).2.2) := by rw [onR, if_neg h, if_pos k]
          rw [e]
          obtain ⟨g1, g2⟩ := ih (half n) h1 m old whole r s hm1 k
          exact ⟨fun q => by show ((rootsR P z old m (half n) whole r s).1, P (rootsR P z old m (half n) whole r s).2.1 a, (rootsR P z old m (half n) whole r s).2.2) = _; rw [g1 q], g2⟩
        · rw [rootsR_right P z h' k]
          have e : onR P old m n whole (a :: r) = (P a (onR P old (m - half n) (n - half n) false r).1, P a (onR P old (m - half n) (n - half n) false r).2.1, (onR P old (m - half n) (n - half n) false r).2.2) := by rw [onR, if_neg h, if_neg k]
          rw [e]
          obtain ⟨g1, g2⟩ := ih (n - half n) (by omega) (m - half n) old false r s (by omega) (by omega)
          exact ⟨fun q => by show (P a (rootsR P z old (m - half n) (n - half n) false r s).1, P a (rootsR P z old (m - half n) (n - half n) false r s).2.1, (rootsR P z old (m - half n) (n - half n) false r s).2.2) = _; rw [g1 q], g2⟩
end
end

section
/-! A proof that is used up from its end: the block that holds what is left; what a call leaves of it. -/
open Go.RowKit Go.Lib

/-- The block of what is left. -/
def restB (g : Nat) (v : Value) (s : Bool) (w : World) : Prop := w.heap[g]? = some (.cells #[v, .bool s] 83 (0, 0))
/-- Below block B the world is as it was, but for block g, which now holds this. -/
structure Rest (B g : Nat) (w w' : World) (v : Value) (s : Bool) : Prop where
  os : w'.os = w.os
  tape : w'.tape = w.tape
  output : w'.output = w.output
  size : w.heap.size ≤ w'.heap.size
  block : ∀ k, k < B → k ≠ g → w'.heap[k]? = w.heap[k]?
  here : restB g v s w'
theorem restB.lt {g : Nat} {v : Value} {s : Bool} {w : World} (h : restB g v s w) : g < w.heap.size := by
  rcases Nat.lt_or_ge g w.heap.size with q | q
  · exact q
  · unfold restB at h
    rw [Array.getElem?_eq_none q] at h
    cases h
theorem restB.cells {g : Nat} {v : Value} {s : Bool} {w : World} (h : restB g v s w) : w.cell? ⟨g, 0, none⟩ = some v ∧ w.cell? ⟨g, 1, none⟩ = some (.bool s) ∧ w.frozen? ⟨g, 0, none⟩ = false ∧ w.frozen? ⟨g, 1, none⟩ = false :=
  ⟨by rw [cell_of_row w g 0 _ _ _ h]; rfl, by rw [cell_of_row w g 1 _ _ _ h]; rfl, frozen_of_row w g 0 _ _ h, frozen_of_row w g 1 _ _ h⟩
theorem restB.on {g : Nat} {v : Value} {s : Bool} {w w' : World} {B : Nat} (h : restB g v s w) (hB : Below B w w') (hg : g < B) : restB g v s w' := by
  unfold restB
  rw [hB.block g hg]
  exact h
theorem restB.left {g : Nat} {v u : Value} {s : Bool} {w : World} (h : restB g v s w) : restB g u s (w.setCell ⟨g, 0, none⟩ u) := by
  have h' : w.heap[g]? = some (.cells #[v, .bool s] 83 (0, 0)) := h
  show (w.setCell ⟨g, 0, none⟩ u).heap[g]? = _
  simp only [World.setCell, Array.getElem?_modify, if_true, h', Option.map_some]
  rfl
theorem restB.short {g : Nat} {v : Value} {s t : Bool} {w : World} (h : restB g v s w) : restB g v t (w.setCell ⟨g, 1, none⟩ (.bool t)) := by
  have h' : w.heap[g]? = some (.cells #[v, .bool s] 83 (0, 0)) := h
  show (w.setCell ⟨g, 1, none⟩ (.bool t)).heap[g]? = _
  simp only [World.setCell, Array.getElem?_modify, if_true, h', Option.map_some]
  rfl
theorem restB.al {g : Nat} {v : Value} {s : Bool} {w : World} (h : restB g v s w) (o : Obj) : restB g v s (w.alloc o) := h.on ((Below.refl w.heap.size w).alloc (Nat.le_refl _) o) h.lt
theorem Rest.refl {B g : Nat} {w : World} {v : Value} {s : Bool} (h : restB g v s w) : Rest B g w w v s := ⟨rfl, rfl, rfl, Nat.le_refl _, fun _ _ _ => rfl, h⟩
theorem Rest.below {B B' g : Nat} {w w1 w2 : World} {v : Value} {s : Bool} (h : Rest B g w w1 v s) (k : Below B' w1 w2) (hB : B ≤ B') (hg : g < B') : Rest B g w w2 v s :=
  ⟨k.os.trans h.os, k.tape.trans h.tape, k.output.trans h.output, Nat.le_trans h.size k.size, fun i hi hne => (k.block i (by omega)).trans (h.block i hi hne), h.here.on k hg⟩
theorem Rest.trans {B B' g : Nat} {w w1 w2 : World} {v v' : Value} {s s' : Bool} (h : Rest B g w w1 v s) (k : Rest B' g w1 w2 v' s') (hB : B ≤ B') : Rest B g w w2 v' s' :=
  ⟨k.os.trans h.os, k.tape.trans h.tape, k.output.trans h.output, Nat.le_trans h.size k.size, fun i hi hne => (k.block i (by omega) hne).trans (h.block i hi hne), k.here⟩
theorem Rest.ofBelow {B g : Nat} {w w1 : World} {v : Value} {s : Bool} (k : Below B w w1) (h : restB g v s w1) : Rest B g w w1 v s := ⟨k.os, k.tape, k.output, k.size, fun i hi _ => k.block i hi, h⟩
theorem Rest.far {B g : Nat} {w w1 : World} {v : Value} {s : Bool} (h : Rest B g w w1 v s) {a : Addr} (ha : B ≤ a.block) (hne : a.block ≠ g) (u : Value) : Rest B g w (w1.setCell a u) v s :=
  ⟨h.os, h.tape, h.output, by simp [World.setCell]; exact h.size, fun i hi hi2 => by rw [Below.heap_setCell _ _ _ _ (by omega)]; exact h.block i hi hi2, by
    unfold restB
    rw [Below.heap_setCell _ _ _ _ (by omega)]
    exact h.here⟩
theorem Rest.al {B g : Nat} {w w1 : World} {v : Value} {s : Bool} (h : Rest B g w w1 v s) (hB : B ≤ w1.heap.size) (o : Obj) : Rest B g w (w1.alloc o) v s :=
  h.below ((Below.refl w1.heap.size w1).alloc (Nat.le_refl _) o) hB h.here.lt
theorem Rest.put4 {B g b : Nat} {w w1 : World} {v : Value} {s : Bool} (h : Rest B g w w1 v s) (hb : B ≤ b) (hne : b ≠ g) (d : D4) : Rest B g w ((((w1.setCell ⟨b, 0, none⟩ (.int .u32 d.d0)).setCell ⟨b, 1, none⟩ (.int .u32 d.d1)).setCell ⟨b, 2, none⟩ (.int .u32 d.d2)).setCell ⟨b, 3, none⟩ (.int .u32 d.d3)) v s :=
  (((h.far hb hne _).far hb hne _).far hb hne _).far hb hne _
theorem Rest.left {B g : Nat} {w w1 : World} {v : Value} {s : Bool} (h : Rest B g w w1 v s) (u : Value) : Rest B g w (w1.setCell ⟨g, 0, none⟩ u) u s :=
  ⟨h.os, h.tape, h.output, by simp [World.setCell]; exact h.size, fun i hi hi2 => by rw [Below.heap_setCell _ _ _ _ hi2]; exact h.block i hi hi2, h.here.left⟩
theorem Rest.short {B g : Nat} {w w1 : World} {v : Value} {s : Bool} (h : Rest B g w w1 v s) (t : Bool) : Rest B g w (w1.setCell ⟨g, 1, none⟩ (.bool t)) v t :=
  ⟨h.os, h.tape, h.output, by simp [World.setCell]; exact h.size, fun i hi hi2 => by rw [Below.heap_setCell _ _ _ _ hi2]; exact h.block i hi hi2, h.here.short⟩
theorem Arr.onR {κ : IntKind} {t : TypeId} {b g B : Nat} {L : List Int} {w w' : World} {v : Value} {s : Bool} (h : Arr κ t b L w) (hR : Rest B g w w' v s) (hb : b < B) (hne : b ≠ g) : Arr κ t b L w' := by
  unfold Arr at *
  rw [hR.block b hb hne]
  exact h
theorem dgAt.onR {w w' : World} {b o g B : Nat} {d : D4} {v : Value} {s : Bool} (h : dgAt w b o d) (hR : Rest B g w w' v s) (hb : b < B) (hne : b ≠ g) : dgAt w' b o d := by
  obtain ⟨h0, h1, h2, h3⟩ := h
  have e : ∀ j, w'.cell? ⟨b, j, none⟩ = w.cell? ⟨b, j, none⟩ := fun j => World.cell?_of_block (w := w) (hR.block b hb hne)
  exact ⟨by rw [e]; exact h0, by rw [e]; exact h1, by rw [e]; exact h2, by rw [e]; exact h3⟩
theorem RdL.onR {w w' : World} {b o g B : Nat} {l : List D4} {v : Value} {s : Bool} (h : RdL w b o l) (hR : Rest B g w w' v s) (hb : b < B) (hne : b ≠ g) : RdL w' b o l :=
  ⟨Nat.lt_of_lt_of_le h.1 hR.size, fun i hi => (h.2 i hi).onR hR hb hne⟩
/-- What is left lies in a block of its own. -/
def RdG (g : Nat) (w : World) (p : Option Addr) (l : List D4) : Prop := l ≠ [] → ∃ b o, p = some ⟨b, o, none⟩ ∧ b ≠ g ∧ RdL w b o l
theorem RdG.onR {w w' : World} {g : Nat} {p : Option Addr} {l : List D4} {v : Value} {s : Bool} (h : RdG g w p l) (hR : Rest w.heap.size g w w' v s) : RdG g w' p l := fun hne => by
  obtain ⟨b, o, e, hb, hr⟩ := h hne
  exact ⟨b, o, e, hb, hr.onR hR hr.1 hb⟩
theorem RdG.on {w w' : World} {g : Nat} {p : Option Addr} {l : List D4} (h : RdG g w p l) (hB : Below w.heap.size w w') : RdG g w' p l := fun hne => by
  obtain ⟨b, o, e, hb, hr⟩ := h hne
  exact ⟨b, o, e, hb, hr.on hB⟩
theorem RdG.init {w : World} {g : Nat} {p : Option Addr} {l : List D4} {x : D4} (h : RdG g w p (l ++ [x])) : RdG g w p l := fun _ => by
  obtain ⟨b, o, e, hb, hr⟩ := h (by simp)
  exact ⟨b, o, e, hb, hr.init⟩
theorem TurnsOk.onR {w w' : World} {g : Nat} {v : Value} {s : Bool} {B : Nat} (h : TurnsOk w) (hR : Rest B g w w' v s) (hB : w.heap.size ≤ B) {u : Value} {s0 : Bool} (h0 : restB g u s0 w) : TurnsOk w' := by
  have hlt := (show 0 < w.heap.size from tab_low h gTrn)
  have hne : 0 ≠ g := by
    intro e
    unfold TurnsOk Go.Lib.TabIs World.var? at h
    unfold restB at h0
    simp only [gTrn, Option.bind_some] at h
    rw [e, h0] at h
    have := congrArg (fun o : Option (Array Value) => (o.map Array.size)) h
    simp [trnTab] at this
  unfold TurnsOk Go.Lib.TabIs World.var? at h ⊢
  simp only [gTrn, Option.bind_some] at h ⊢
  rw [hR.block _ (by omega) hne]
  exact h
end

section
/-! The laying of math/bits.Len by hand; the half of a number as the code reckons it; a list parted in two. -/
open Go.Shelf Go.RowKit

def lay125_ren : Go.Shelf.Ren := ⟨fun | 125 => 85 | 128 => 93 | 129 => 94 | n => n, fun | 3 => 3 | 4 => 4 | 5 => 5 | 9 => 9 | 46 => 92 | 51 => 22 | 53 => 89 | n => n, fun | n => n⟩
theorem lay125 : Go.Proofs.Lays.n125 Tryd.prog lay125_ren := {
  mixed := by kernel_rfl
  f125 := Tryd.func85.trans (congrArg some (by kernel_rfl))
  f128 := Tryd.func93.trans (congrArg some (by kernel_rfl))
  f129 := Tryd.func94.trans (congrArg some (by kernel_rfl))
  t3 := Tryd.underlying3
  a3 := Tryd.isAgg3
  z3 := Tryd.sizeOf3
  v3 := Tryd.zeroValue3
  t4 := Tryd.underlying4
  a4 := Tryd.isAgg4
  z4 := Tryd.sizeOf4
  v4 := Tryd.zeroValue4
  t5 := Tryd.underlying5
  a5 := Tryd.isAgg5
  z5 := Tryd.sizeOf5
  v5 := Tryd.zeroValue5
  t9 := Tryd.underlying9
  a9 := Tryd.isAgg9
  z9 := Tryd.sizeOf9
  v9 := Tryd.zeroValue9
  t46 := Tryd.underlying92
  a46 := Tryd.isAgg92
  z46 := Tryd.sizeOf92
  v46 := Tryd.zeroValue92
  t51 := Tryd.underlying22
  a51 := Tryd.isAgg22
  z51 := Tryd.sizeOf22
  v51 := Tryd.zeroValue22
  t53 := Tryd.underlying89
  a53 := Tryd.isAgg89
  z53 := Tryd.sizeOf89
  v53 := Tryd.zeroValue89 }
theorem bitsLen_any (x : Int) (w : World) (h0 : 0 ≤ x) (h1 : x ≤ 18446744073709551615) :
    Calls Tryd.prog 85 #[.int .u64 x] w fun e w' => e = .returned (.int .i64 (Lib.bitLen x.toNat)) ∧ w' = w := Any.bits_Len lay125 x w h0 h1
theorem bitLenAux_log : ∀ (f x : Nat), x ≠ 0 → x < 2 ^ f → Lib.bitLenAux f x = x.log2 + 1
  | 0, x, h0, h => by simp at h; omega
  | f + 1, x, h0, h => by
    rw [Lib.bitLenAux, if_neg h0]
    by_cases q : x = 1
    · subst q
      cases f with
      | zero => rfl
      | succ g => rfl
    · rw [Nat.log2_def, if_pos (by omega), bitLenAux_log f (x / 2) (by omega) (by rw [Nat.pow_succ] at h; omega)]
      omega
theorem bitLen_log (x : Nat) (h0 : x ≠ 0) (h : x < 2 ^ 64) : Lib.bitLen x = x.log2 + 1 := bitLenAux_log 64 x h0 h
theorem pow_in : ∀ g : Nat, g < 20 → wrap64 ((2 : Int) ^ g) = ((2 ^ g : Nat) : Int) := by decide +kernel
set_option maxHeartbeats 1000000 in
set_option maxRecDepth 100000 in
theorem chalf_any (n : Nat) (w : World) (h2 : 2 ≤ n) (hn : n ≤ 1000000) : Calls Tryd.prog 75 #[.int .i64 (n : Int)] w fun e w' => e = .returned (.int .i64 (half n : Nat)) ∧ w' = w := by
  have hw : IntKind.i64.wrap ((n : Int) - 1) = ((n - 1 : Nat) : Int) := by rw [IntWalk.i64_in _ (by omega)]; omega
  have hwu : IntKind.u64.wrap ((n - 1 : Nat) : Int) = ((n - 1 : Nat) : Int) := by simp [IntKind.wrap, IntKind.bits, IntKind.signed]; omega
  obtain ⟨m, hm⟩ : ∃ m, n - 1 = m := ⟨_, rfl⟩
  rw [hm] at hw hwu
  have hb : Lib.bitLen m = m.log2 + 1 := bitLen_log m (by omega) (by omega)
  have hl : m.log2 < 20 := (Nat.log2_lt (by omega)).mpr (by omega)
  have hh : half n = 2 ^ m.log2 := by rw [half, hm]
  rw [hh]
  obtain ⟨g, hg⟩ : ∃ g, m.log2 = g := ⟨_, rfl⟩
  rw [hg] at hb hl ⊢
  clear hh hg
  go_enter Tryd.func75, Tryd.ntmps75
  go_wp2_with fail
  refine (bitsLen_any (m : Int) w (by omega) (by omega)).mono ?_
  rintro e w1 ⟨rfl, rfl⟩
  rw [Int.toNat_natCast, hb]
  go_wp2
  go_ret
  refine ⟨congrArg Ending.returned (congrArg (Value.int IntKind.i64) ?_), rfl⟩
  exact pow_in g hl
end

section
/-! The code's Root of any list: a list parted in two, the roots of both. -/
open Go.RowKit Go.Lib

/-- A list parted in two. -/
theorem split_any (n k cap b o : Nat) (w : World) (h2 : 2 ≤ n) (hn : n ≤ 1000000) (hk : half n = k) (hc : n ≤ cap) (_hm : cap ≤ maxLen) :
    Calls Tryd.prog 68 #[.slice (some ⟨b, o, none⟩) n cap] w fun e w' => e = .returned (.tuple #[.slice (some ⟨b, o, none⟩) k cap, .slice (some ⟨b, o + k * 4, none⟩) ((n - k : Nat)) ((cap - k : Nat))]) ∧ Below w.heap.size w w' := by
  have hk1 := half_lt h2
  have hk0 := half_pos n
  rw [hk] at hk1 hk0
  have HK := Lib.hid hk
  clear hk
  unfold maxLen at _hm
  have hki : (k : Int) ≤ (n : Int) := by omega
  have hkc : (k : Int) ≤ (cap : Int) := by omega
  have hk00 : (0 : Int) ≤ (k : Int) := by omega
  have hnc : (n : Int) ≤ (cap : Int) := by omega
  have hck : cap ≠ k := by omega
  go_enter Tryd.func68, Tryd.ntmps68
  go_wp2_with fail
  refine (chalf_any n w h2 hn).mono ?_
  rintro e w1 ⟨rfl, rfl⟩
  rw [HK.out]
  go_wp2_with fail
  go_region
  all_goals
    go_wp2
    go_ret2
    exact ⟨rfl, (Below.refl _ _).drew⟩
/-- What the code's Root answers, of a list that lies in memory. -/
def CRootC (l : List D4) : Prop := ∀ (p : Option Addr) (cap : Nat) (w : World), (l ≠ [] → ∃ b o, p = some ⟨b, o, none⟩ ∧ RdL w b o l) → l.length ≤ cap → cap ≤ maxLen → TurnsOk w →
  Calls Tryd.prog 27 #[.slice p l.length cap] w fun e w' => e = .returned (rootD l).val ∧ Below w.heap.size w w'
theorem croot_val (l : List D4) (H : CRootC l) (y : D4) (b o n cap : Nat) (w : World) (hr : RdL w b o l) (hn : n = l.length) (hc : l.length ≤ cap) (hm : cap ≤ maxLen) (hT : TurnsOk w) (hy : rootD l = y) :
    Calls Tryd.prog 27 #[.slice (some ⟨b, o, none⟩) n cap] w fun e w' => e = .returned (.agg #[.int .u32 y.d0, .int .u32 y.d1, .int .u32 y.d2, .int .u32 y.d3]) ∧ Below w.heap.size w w' := by
  subst hy; subst hn
  exact H (some ⟨b, o, none⟩) cap w (fun _ => ⟨b, o, rfl, hr⟩) hc hm hT
theorem cof_none (y : D4) (w : World) (hT : TurnsOk w) (hy : noneD = y) : Calls Tryd.prog 46 #[.string ⟨#[]⟩] w fun e w' => e = .returned (.agg #[.int .u32 y.d0, .int .u32 y.d1, .int .u32 y.d2, .int .u32 y.d3]) ∧ Below w.heap.size w w' := by
  subst hy; exact cof_any ⟨#[]⟩ w (by decide) hT
def both8 (a b : D4) : S8 := ⟨a.d0, a.d1, a.d2, a.d3, b.d0, b.d1, b.d2, b.d3⟩
def nilS : S8 := ⟨0, 0, 0, 0, 0, 0, 0, 0⟩
theorem start8t (w w0 : World) (h : w.alloc (.cells #[.int .u32 0, .int .u32 0, .int .u32 0, .int .u32 0, .int .u32 0, .int .u32 0, .int .u32 0, .int .u32 0] 68) = w0) :
    Arr .u32 68 w.heap.size nilS.toL w0 ∧ Below w.heap.size w w0 := by
  subst h
  exact ⟨heap_alloc_new w _, (Below.refl _ _).alloc (Nat.le_refl _) _⟩
theorem putB8 {t : TypeId} {b : Nat} {N : List Int} {w : World} {x z : D4} (h : Arr .u32 t b N w) (hn : N.length = 8) : Arr .u32 t b (both8 x z).toL ((((((((w.setCell ⟨b, 0, none⟩ (.int .u32 x.d0)).setCell ⟨b, 1, none⟩ (.int .u32 x.d1)).setCell ⟨b, 2, none⟩ (.int .u32 x.d2)).setCell ⟨b, 3, none⟩ (.int .u32 x.d3)).setCell ⟨b, 4, none⟩ (.int .u32 z.d0)).setCell ⟨b, 5, none⟩ (.int .u32 z.d1)).setCell ⟨b, 6, none⟩ (.int .u32 z.d2)).setCell ⟨b, 7, none⟩ (.int .u32 z.d3)) := put8 (y := both8 x z) h hn
theorem below_putB8 {B b : Nat} {w0 w : World} (h : Below B w0 w) (hb : B ≤ b) (x z : D4) : Below B w0 ((((((((w.setCell ⟨b, 0, none⟩ (.int .u32 x.d0)).setCell ⟨b, 1, none⟩ (.int .u32 x.d1)).setCell ⟨b, 2, none⟩ (.int .u32 x.d2)).setCell ⟨b, 3, none⟩ (.int .u32 x.d3)).setCell ⟨b, 4, none⟩ (.int .u32 z.d0)).setCell ⟨b, 5, none⟩ (.int .u32 z.d1)).setCell ⟨b, 6, none⟩ (.int .u32 z.d2)).setCell ⟨b, 7, none⟩ (.int .u32 z.d3)) :=
  (((((((h.setCell (p := ⟨b, 0, none⟩) hb _).setCell (p := ⟨b, 1, none⟩) hb _).setCell (p := ⟨b, 2, none⟩) hb _).setCell (p := ⟨b, 3, none⟩) hb _).setCell (p := ⟨b, 4, none⟩) hb _).setCell (p := ⟨b, 5, none⟩) hb _).setCell (p := ⟨b, 6, none⟩) hb _).setCell (p := ⟨b, 7, none⟩) hb _
theorem farB8 {κ : IntKind} {t : TypeId} {c b : Nat} {L : List Int} {w : World} (h : Arr κ t c L w) (hne : c ≠ b) (x z : D4) : Arr κ t c L ((((((((w.setCell ⟨b, 0, none⟩ (.int .u32 x.d0)).setCell ⟨b, 1, none⟩ (.int .u32 x.d1)).setCell ⟨b, 2, none⟩ (.int .u32 x.d2)).setCell ⟨b, 3, none⟩ (.int .u32 x.d3)).setCell ⟨b, 4, none⟩ (.int .u32 z.d0)).setCell ⟨b, 5, none⟩ (.int .u32 z.d1)).setCell ⟨b, 6, none⟩ (.int .u32 z.d2)).setCell ⟨b, 7, none⟩ (.int .u32 z.d3)) :=
  (((((((h.far (a := ⟨b, 0, none⟩) hne _).far (a := ⟨b, 1, none⟩) hne _).far (a := ⟨b, 2, none⟩) hne _).far (a := ⟨b, 3, none⟩) hne _).far (a := ⟨b, 4, none⟩) hne _).far (a := ⟨b, 5, none⟩) hne _).far (a := ⟨b, 6, none⟩) hne _).far (a := ⟨b, 7, none⟩) hne _
set_option maxHeartbeats 2000000 in
set_option maxRecDepth 100000 in
theorem halves_any (l : List D4) (h2 : 2 ≤ l.length) (hle : l.length ≤ 1000000) (hT1 : CRootC (l.take (half l.length))) (hT2 : CRootC (l.drop (half l.length))) (x z : D4) (hx : rootD (l.take (half l.length)) = x) (hz : rootD (l.drop (half l.length)) = z) (n b o cap : Nat) (w : World) (hn : l.length = n) (hr : RdL w b o l) (hc : n ≤ cap) (hm : cap ≤ maxLen) (hT : TurnsOk w) :
    Calls Tryd.prog 47 #[.slice (some ⟨b, o, none⟩) n cap] w fun e w' => e = .returned (.agg #[.int .u32 x.d0, .int .u32 x.d1, .int .u32 x.d2, .int .u32 x.d3, .int .u32 z.d0, .int .u32 z.d1, .int .u32 z.d2, .int .u32 z.d3]) ∧ Below w.heap.size w w' := by
  have hk1 := half_lt h2
  have hk0 := half_pos l.length
  obtain ⟨k, hk⟩ : ∃ k, half l.length = k := ⟨_, rfl⟩
  rw [hk] at hk0 hk1 hT1 hT2 hx hz
  have hlt : (l.take k).length = k := by rw [List.length_take]; omega
  have hld : (l.drop k).length = n - k := by rw [List.length_drop, hn]
  rw [hn] at hk hk1 h2 hle
  have HX := Lib.hid hx
  have HZ := Lib.hid hz
  have HK := Lib.hid hk
  have HLT := Lib.hid hlt
  have HLD := Lib.hid hld
  clear hx hz hk hlt hld hn
  obtain ⟨w0, hw0⟩ : ∃ w0, w.alloc (.cells #[.int .u32 0, .int .u32 0, .int .u32 0, .int .u32 0, .int .u32 0, .int .u32 0, .int .u32 0, .int .u32 0] 68) = w0 := ⟨_, rfl⟩
  obtain ⟨hR, hB⟩ := start8t w w0 hw0
  have hr0 := hr.on hB
  have hT0 := hT.below hB
  clear hr hT
  have hcm : cap ≤ maxLen := hm
  have hcm2 : cap - k ≤ maxLen := by omega
  have hc1 : (l.take k).length ≤ cap := by rw [HLT.out]; omega
  have hc2 : (l.drop k).length ≤ cap - k := by rw [HLD.out]; omega
  go_enter Tryd.func47, Tryd.ntmps47
  go_wp2_with fail
  clear hw0
  refine (split_any n k cap b o w0 h2 hle HK.out hc hcm).mono ?_
  rintro e w1 ⟨rfl, hA1⟩
  have hR1 := hR.on hA1
  have hB1 := hB.trans (hA1.mono hB.size)
  have hr1 := hr0.on hA1
  have hT1' := hT0.below hA1
  clear hR hB hr0 hT0 hA1
  go_wp2_with fail
  refine (croot_val _ hT1 x b o k cap w1 (hr1.take k) HLT.out.symm hc1 hcm hT1' HX.out).mono ?_
  rintro e w2 ⟨rfl, hA2⟩
  have hR2 := hR1.on hA2
  have hB2 := hB1.trans (hA2.mono hB1.size)
  have hr2 := hr1.on hA2
  have hT2' := hT1'.below hA2
  clear hR1 hB1 hr1 hT1' hA2
  go_wp2_with fail
  refine (croot_val _ hT2 z b (o + k * 4) (n - k) (cap - k) w2 (hr2.drop k) HLD.out.symm hc2 hcm2 hT2' HZ.out).mono ?_
  rintro e w3 ⟨rfl, hA3⟩
  have hR3 := hR2.on hA3
  have hB3 := hB2.trans (hA3.mono hB2.size)
  clear hR2 hB2 hr2 hT2' hA3
  obtain ⟨k0, k1, k2, k3, k4, k5, k6, k7⟩ := Arr.c8 (y := nilS) hR3
  obtain ⟨f0, f1, f2, f3, f4, f5, f6, f7⟩ := hR3.f8
  go_wp2_with fail
  have hRf : Arr .u32 68 w.heap.size (both8 x z).toL ((((((((w3.setCell ⟨w.heap.size, 0, none⟩ (.int .u32 x.d0)).setCell ⟨w.heap.size, 1, none⟩ (.int .u32 x.d1)).setCell ⟨w.heap.size, 2, none⟩ (.int .u32 x.d2)).setCell ⟨w.heap.size, 3, none⟩ (.int .u32 x.d3)).setCell ⟨w.heap.size, 4, none⟩ (.int .u32 z.d0)).setCell ⟨w.heap.size, 5, none⟩ (.int .u32 z.d1)).setCell ⟨w.heap.size, 6, none⟩ (.int .u32 z.d2)).setCell ⟨w.heap.size, 7, none⟩ (.int .u32 z.d3)) := putB8 hR3 rfl
  have hBf : Below w.heap.size w ((((((((w3.setCell ⟨w.heap.size, 0, none⟩ (.int .u32 x.d0)).setCell ⟨w.heap.size, 1, none⟩ (.int .u32 x.d1)).setCell ⟨w.heap.size, 2, none⟩ (.int .u32 x.d2)).setCell ⟨w.heap.size, 3, none⟩ (.int .u32 x.d3)).setCell ⟨w.heap.size, 4, none⟩ (.int .u32 z.d0)).setCell ⟨w.heap.size, 5, none⟩ (.int .u32 z.d1)).setCell ⟨w.heap.size, 6, none⟩ (.int .u32 z.d2)).setCell ⟨w.heap.size, 7, none⟩ (.int .u32 z.d3)) := below_putB8 hB3 (Nat.le_refl _) x z
  clear k0 k1 k2 k3 k4 k5 k6 k7 f0 f1 f2 f3 f4 f5 f6 f7
  generalize ((((((((w3.setCell ⟨w.heap.size, 0, none⟩ (.int .u32 x.d0)).setCell ⟨w.heap.size, 1, none⟩ (.int .u32 x.d1)).setCell ⟨w.heap.size, 2, none⟩ (.int .u32 x.d2)).setCell ⟨w.heap.size, 3, none⟩ (.int .u32 x.d3)).setCell ⟨w.heap.size, 4, none⟩ (.int .u32 z.d0)).setCell ⟨w.heap.size, 5, none⟩ (.int .u32 z.d1)).setCell ⟨w.heap.size, 6, none⟩ (.int .u32 z.d2)).setCell ⟨w.heap.size, 7, none⟩ (.int .u32 z.d3)) = wf at *
  obtain ⟨k0, k1, k2, k3, k4, k5, k6, k7⟩ := Arr.c8 (y := both8 x z) hRf
  refine bodyPost_ret (v := .agg #[.int .u32 x.d0, .int .u32 x.d1, .int .u32 x.d2, .int .u32 x.d3, .int .u32 z.d0, .int .u32 z.d1, .int .u32 z.d2, .int .u32 z.d3]) (by simp [results, Tryd.results47, go_sem, k0, k1, k2, k3, k4, k5, k6, k7, both8]) rfl ⟨rfl, hBf⟩
theorem croot_c0 : CRootC [] := by
  intro p cap w _ _ hm hT
  obtain ⟨y, hy⟩ : ∃ y, noneD = y := ⟨_, rfl⟩
  have HY := Lib.hid hy
  have HE : Hid (rootD [] = y) := by show _ = _; rw [rootD, root_nil, hy]
  clear hy
  unfold maxLen at hm
  obtain ⟨w0, hw0⟩ : ∃ w0, w.alloc (.cells #[.int .u32 0, .int .u32 0, .int .u32 0, .int .u32 0] 24) = w0 := ⟨_, rfl⟩
  obtain ⟨hR, hB⟩ := start4 w w0 hw0
  have hT0 := hT.below hB
  go_enter Tryd.func27, Tryd.ntmps27
  go_wp2_with fail
  clear hw0
  refine (cof_none y w0 hT0 HY.out).mono ?_
  rintro e w1 ⟨rfl, hC⟩
  have hR1 := hR.on hC
  have hB1 := hB.trans (hC.mono hB.size)
  clear hR hB hC hT0 hT
  obtain ⟨k0, k1, k2, k3⟩ := Arr.c4 (d := zeroD) hR1
  obtain ⟨f0, f1, f2, f3⟩ := hR1.f4
  have hRf := put4 (d := y) hR1 rfl
  have hBf := below_put4 hB1 (Nat.le_refl _) y
  clear hR1 hB1
  go_wp2_with fail
  generalize ((((w1.setCell ⟨w.heap.size, 0, none⟩ (.int .u32 y.d0)).setCell ⟨w.heap.size, 1, none⟩ (.int .u32 y.d1)).setCell ⟨w.heap.size, 2, none⟩ (.int .u32 y.d2)).setCell ⟨w.heap.size, 3, none⟩ (.int .u32 y.d3)) = wf at *
  obtain ⟨r0, r1, r2, r3⟩ := hRf.c4
  refine bodyPost_ret (v := y.val) (by simp [results, Tryd.results27, go_sem, D4.val, r0, r1, r2, r3]) rfl ⟨by rw [HE.out], hBf⟩
set_option maxHeartbeats 2000000 in
set_option maxRecDepth 100000 in
theorem croot_c1 (a : D4) : CRootC [a] := by
  intro p cap w hp _ hm hT
  obtain ⟨b, o, rfl, hr⟩ := hp (by simp)
  have HE : Hid (rootD [a] = a) := by show _ = _; rw [rootD, root_one]
  unfold maxLen at hm
  obtain ⟨w0, hw0⟩ : ∃ w0, w.alloc (.cells #[.int .u32 0, .int .u32 0, .int .u32 0, .int .u32 0] 24) = w0 := ⟨_, rfl⟩
  obtain ⟨hR, hB⟩ := start4 w w0 hw0
  have hr0 := hr.on hB
  obtain ⟨c0, c1, c2, c3⟩ := hr0.2 0 (by simp)
  simp only [Nat.zero_mul, Nat.add_zero, List.getD_cons_zero] at c0 c1 c2 c3
  obtain ⟨k0, k1, k2, k3⟩ := Arr.c4 (d := zeroD) hR
  obtain ⟨f0, f1, f2, f3⟩ := hR.f4
  have hRf := put4 (d := a) hR rfl
  have hBf := below_put4 hB (Nat.le_refl _) a
  clear hR hB hr hr0
  go_enter Tryd.func27, Tryd.ntmps27
  go_wp2_with fail
  clear hw0
  generalize ((((w0.setCell ⟨w.heap.size, 0, none⟩ (.int .u32 a.d0)).setCell ⟨w.heap.size, 1, none⟩ (.int .u32 a.d1)).setCell ⟨w.heap.size, 2, none⟩ (.int .u32 a.d2)).setCell ⟨w.heap.size, 3, none⟩ (.int .u32 a.d3)) = wf at *
  obtain ⟨r0, r1, r2, r3⟩ := hRf.c4
  refine bodyPost_ret (v := a.val) (by simp [results, Tryd.results27, go_sem, D4.val, r0, r1, r2, r3]) rfl ⟨by rw [HE.out], hBf⟩
theorem al8 (x z : D4) (w : World) : Arr .u32 68 w.heap.size (both8 x z).toL (w.alloc (.cells #[.int .u32 x.d0, .int .u32 x.d1, .int .u32 x.d2, .int .u32 x.d3, .int .u32 z.d0, .int .u32 z.d1, .int .u32 z.d2, .int .u32 z.d3] 68)) := heap_alloc_new w _
set_option maxHeartbeats 2000000 in
set_option maxRecDepth 100000 in
theorem croot_cN (l : List D4) (h2 : 2 ≤ l.length) (hle : l.length ≤ 1000000) (hok : allD4 l) (hT1 : CRootC (l.take (half l.length))) (hT2 : CRootC (l.drop (half l.length))) : CRootC l := by
  intro p cap w hp hc hm hT
  obtain ⟨b, o, rfl, hr⟩ := hp (by intro e; subst e; simp at h2)
  obtain ⟨n, hn⟩ : ∃ n, l.length = n := ⟨_, rfl⟩
  obtain ⟨x, hx⟩ : ∃ x, rootD (l.take (half l.length)) = x := ⟨_, rfl⟩
  obtain ⟨z, hz⟩ : ∃ z, rootD (l.drop (half l.length)) = z := ⟨_, rfl⟩
  obtain ⟨y, hy⟩ : ∃ y, pairS x z = y := ⟨_, rfl⟩
  have hxo : x.ok := by rw [← hx]; exact rootD_ok _ _ rfl (hok.take _)
  have hzo : z.ok := by rw [← hz]; exact rootD_ok _ _ rfl (hok.drop _)
  have HE : Hid (rootD l = y) := by show _ = _; rw [rootD, root_more pairS noneD l h2]; show pairS (rootD _) (rootD _) = y; rw [hx, hz, hy]
  obtain ⟨w0, hw0⟩ : ∃ w0, w.alloc (.cells #[.int .u32 0, .int .u32 0, .int .u32 0, .int .u32 0] 24) = w0 := ⟨_, rfl⟩
  obtain ⟨hR, hB⟩ := start4 w w0 hw0
  have hr0 := hr.on hB
  have hT0 := hT.below hB
  have hH := halves_any l h2 hle hT1 hT2 x z hx hz n b o cap w0 hn hr0 (by omega) hm hT0
  have HY := Lib.hid hy
  clear hy hx hz hr hT hr0
  have hn0 : ((n : Int) == 0) = false := by simp; omega
  have hn1 : ((n : Int) == 1) = false := by simp; omega
  rw [hn] at hc ⊢
  have hcm := hm
  unfold maxLen at hm
  go_enter Tryd.func27, Tryd.ntmps27
  go_wp2_with fail
  clear hw0
  refine hH.mono ?_
  rintro e w1 ⟨rfl, hA1⟩
  have hR1 := hR.on hA1
  have hB1 := hB.trans (hA1.mono hB.size)
  have hT1' := hT0.below hA1
  clear hR hB hT0 hA1 hH
  have hX1 := al8 x z w1
  have hR2 := hR1.al (.cells #[.int .u32 x.d0, .int .u32 x.d1, .int .u32 x.d2, .int .u32 x.d3, .int .u32 z.d0, .int .u32 z.d1, .int .u32 z.d2, .int .u32 z.d3] 68)
  have hB2 := hB1.alloc hB1.size (.cells #[.int .u32 x.d0, .int .u32 x.d1, .int .u32 x.d2, .int .u32 x.d3, .int .u32 z.d0, .int .u32 z.d1, .int .u32 z.d2, .int .u32 z.d3] 68)
  have hT2' := hT1'.below ((Below.refl w1.heap.size w1).alloc (Nat.le_refl _) (.cells #[.int .u32 x.d0, .int .u32 x.d1, .int .u32 x.d2, .int .u32 x.d3, .int .u32 z.d0, .int .u32 z.d1, .int .u32 z.d2, .int .u32 z.d3] 68))
  obtain ⟨k0, k1, k2, k3, k4, k5, k6, k7⟩ := Arr.c8 (y := both8 x z) hX1
  simp only [both8] at k0 k1 k2 k3 k4 k5 k6 k7
  go_wp2_with fail
  generalize w1.alloc (.cells #[.int .u32 x.d0, .int .u32 x.d1, .int .u32 x.d2, .int .u32 x.d3, .int .u32 z.d0, .int .u32 z.d1, .int .u32 z.d2, .int .u32 z.d3] 68) = w2 at *
  refine (cpair_val x z y w2 hxo hzo hT2' HY.out).mono ?_
  rintro e w3 ⟨rfl, hA3⟩
  have hR3 := hR2.on hA3
  have hB3 := hB2.trans (hA3.mono hB2.size)
  clear k0 k1 k2 k3 k4 k5 k6 k7 hX1 hR2 hB2 hT2' hA3 hT1' hR1 hB1
  obtain ⟨k0, k1, k2, k3⟩ := Arr.c4 (d := zeroD) hR3
  obtain ⟨f0, f1, f2, f3⟩ := hR3.f4
  have hRf := put4 (d := y) hR3 rfl
  have hBf := below_put4 hB3 (Nat.le_refl _) y
  go_wp2_with fail
  generalize ((((w3.setCell ⟨w.heap.size, 0, none⟩ (.int .u32 y.d0)).setCell ⟨w.heap.size, 1, none⟩ (.int .u32 y.d1)).setCell ⟨w.heap.size, 2, none⟩ (.int .u32 y.d2)).setCell ⟨w.heap.size, 3, none⟩ (.int .u32 y.d3)) = wf at *
  obtain ⟨r0, r1, r2, r3⟩ := hRf.c4
  refine bodyPost_ret (v := y.val) (by simp [results, Tryd.results27, go_sem, D4.val, r0, r1, r2, r3]) rfl ⟨by rw [HE.out], hBf⟩
theorem croot_all : ∀ (n : Nat) (l : List D4), l.length = n → n ≤ 1000000 → allD4 l → CRootC l := by
  intro n
  induction n using Nat.strongRecOn with
  | _ n ih =>
    intro l hn hle hok
    match l, hn, hok with
    | [], _, _ => exact croot_c0
    | [a], _, _ => exact croot_c1 a
    | a :: b :: r, hn, hok =>
      have h2 : 2 ≤ (a :: b :: r).length := by simp
      have hl := half_lt h2
      have hp := half_pos (a :: b :: r).length
      exact croot_cN (a :: b :: r) h2 (by omega) hok
        (ih (half (a :: b :: r).length) (by omega) ((a :: b :: r).take (half (a :: b :: r).length)) (by rw [List.length_take]; omega) (by omega) (hok.take _))
        (ih ((a :: b :: r).length - half (a :: b :: r).length) (by omega) ((a :: b :: r).drop (half (a :: b :: r).length)) (by rw [List.length_drop]) (by omega) (hok.drop _))
theorem croot_any (l : List D4) (hle : l.length ≤ 1000000) (hok : allD4 l) : CRootC l := croot_all l.length l rfl hle hok
end

section
/-! The code's Prove and ProveOn (written by gen_pf.py). -/
open Go.RowKit Go.Lib

theorem OwnsD.low {B B' : Nat} {v : Value} {l : List D4} {w : World} (h : OwnsD B v l w) (hB : B' ≤ B) : OwnsD B' v l w := by
  refine ⟨h.1, ?_⟩
  rcases h.2 with q | ⟨g, cap, cur, hv, hb, q⟩
  · exact .inl q
  · exact .inr ⟨g, cap, cur, hv, Nat.le_trans hB hb, q⟩
def PInC (l : List D4) (i : Nat) : Prop := ∀ (b o cap : Nat) (w : World), RdL w b o l → l.length ≤ cap → cap ≤ maxLen → TurnsOk w →
  Calls Tryd.prog 51 #[.slice (some ⟨b, o, none⟩) l.length cap, .int .i64 (i : Int)] w fun e w' => ∃ v, e = .returned v ∧ OwnsD w.heap.size v (wayD l i) w' ∧ Below w.heap.size w w'
theorem pin_val (l : List D4) (i : Nat) (H : PInC l i) (q : List D4) (b o n cap : Nat) (m : Int) (w : World) (hr : RdL w b o l) (hn : n = l.length) (hi : (i : Int) = m) (hc : l.length ≤ cap) (hm : cap ≤ maxLen) (hT : TurnsOk w) (hq : wayD l i = q) :
    Calls Tryd.prog 51 #[.slice (some ⟨b, o, none⟩) n cap, .int .i64 m] w fun e w' => ∃ v, e = .returned v ∧ OwnsD w.heap.size v q w' ∧ Below w.heap.size w w' := by
  subst hq; subst hn; subst hi
  exact H b o cap w hr hc hm hT
set_option maxHeartbeats 2000000 in
set_option maxRecDepth 100000 in
theorem pin_c1 (a : D4) : PInC [a] 0 := by
  intro b o cap w hr hc hm hT
  have HE : Hid (wayD [a] 0 = []) := by show _ = _; rw [wayD, way_few _ _ _ _ (by simp)]
  unfold maxLen at hm
  go_enter Tryd.func51, Tryd.ntmps51
  go_wp2
  go_ret
  exact ⟨_, rfl, by rw [HE.out]; exact OwnsD.nil _ _, Below.refl _ _⟩
set_option maxHeartbeats 4000000 in
set_option maxRecDepth 100000 in
theorem pin_cL (l : List D4) (i : Nat) (h2 : 2 ≤ l.length) (hle : l.length ≤ 1000000) (hok : allD4 l) (hin : i < l.length) (hi : i < half l.length) (hT : PInC (l.take (half l.length)) i) : PInC l i := by
  have _u := hin
  intro b o cap w hr hc hm hTk
  obtain ⟨n, hn⟩ : ∃ n, l.length = n := ⟨_, rfl⟩
  have hk1 := half_lt h2
  have hk0 := half_pos l.length
  obtain ⟨k, hk⟩ : ∃ k, half l.length = k := ⟨_, rfl⟩
  obtain ⟨q, hq⟩ : ∃ q, wayD (l.take k) i = q := ⟨_, rfl⟩
  obtain ⟨z, hz⟩ : ∃ z, rootD (l.drop k) = z := ⟨_, rfl⟩
  have hqn : q.length ≤ 21 := by rw [← hq]; exact Nat.le_succ_of_le (way_len _ _ 20 _ _ (by rw [List.length_take]; have : (2 : Nat) ^ 20 = 1048576 := (by decide); omega))
  have HE : Hid (wayD l i = q ++ [z]) := by show _ = _; rw [wayD, way_left pairS noneD l i h2 hi, hk]; show wayD _ _ ++ [rootD _] = _; rw [hq, hz]
  rw [hk] at hk0 hk1 hT hi
  have hlt : (l.take k).length = k := by rw [List.length_take]; omega
  have hld : (l.drop k).length = n - k := by rw [List.length_drop, hn]
  have hD : CRootC (l.drop k) := croot_any _ (by rw [List.length_drop]; omega) (hok.drop k)
  rw [hn] at hk hk1 h2 hle hc hin
  have HZ := Lib.hid hz
  have HQ := Lib.hid hq
  have HK := Lib.hid hk
  have HLT := Lib.hid hlt
  have HLD := Lib.hid hld
  clear hz hq hk hlt hld
  rw [hn]
  clear hn
  have hcm : cap ≤ maxLen := hm
  have hcm2 : cap - k ≤ maxLen := by omega
  unfold maxLen at hm
  have hdi : decide ((i : Int) < (k : Int)) = true := by simp; omega
  have hn1 : ((n : Int) == 1) = false := by simp; omega
  have hc1 : (l.take k).length ≤ cap := by rw [HLT.out]; omega
  have hc2 : (l.drop k).length ≤ cap - k := by rw [HLD.out]; omega
  obtain ⟨i0, hinf, hz0, hz1, hz2⟩ := info_parts info_dg
  go_enter Tryd.func51, Tryd.ntmps51
  go_wp2_with fail
  refine (split_any n k cap b o w h2 hle HK.out hc hcm).mono ?_
  rintro e w1 ⟨rfl, hA1⟩
  have hr1 := hr.on hA1
  have hT1 := hTk.below hA1
  have hs1 : w.heap.size ≤ w1.heap.size := hA1.size
  clear hr hTk
  go_wp2_with fail
  refine (pin_val _ _ hT q b o k cap _ w1 (hr1.take k) HLT.out.symm rfl hc1 hcm hT1 HQ.out).mono ?_
  rintro e w2 ⟨v1, rfl, hown1, hA2⟩
  have hB2 := hA1.trans (hA2.mono hA1.size)
  have hr2 := hr1.on hA2
  have hT2 := hT1.below hA2
  clear hr1 hT1 hA1
  go_wp2_with fail
  refine (croot_val _ hD z b (o + k * 4) (n - k) (cap - k) w2 (hr2.drop k) HLD.out.symm hc2 hcm2 hT2 HZ.out).mono ?_
  rintro e w3 ⟨rfl, hA3⟩
  have hown3 := hown1.on hA3
  have hB3 := hB2.trans (hA3.mono hB2.size)
  have hs3 : w1.heap.size ≤ w3.heap.size := Nat.le_trans hA2.size hA3.size
  clear hr2 hT2 hA2 hA3 hown1 hB2
  go_wp2_with (at_builtin; refine wpList_append_lies _ (by rfl) _ _ _ (by rfl) w1.heap.size 24 i0 _ 4 16 Tryd.underlying35 hinf hz0 hz1 hz2 rfl (by omega) v1 q.length (dCells q) (by rfl) (hown3.alloc _) ⟨w3.heap.size, 0, none⟩ 1 1 [.int .u32 z.d0, .int .u32 z.d1, .int .u32 z.d2, .int .u32 z.d3] (by rfl) (by rfl) (World.news_of_block (cs := #[.int .u32 z.d0, .int .u32 z.d1, .int .u32 z.d2, .int .u32 z.d3]) (t := 24) (fr := (0, 0)) (heap_alloc_new w3 _)) (by simp [Value.oneCell']) (by omega) (by unfold maxLen; omega) (by omega) (by simp; omega) (w3.heap.size + 1) (by simp) ?_)
  intro gg gcap w4 hown4 hgrow hat hlt4
  have hB4 : Below w.heap.size w w4 := (hB3.alloc hB3.size _).grown hgrow (by simp; omega) (fun k hk => by have := (World.ownsRow.lt hown3 k hk).1; omega)
  have hO := OwnsD.snoc (d := z) hown4
  clear hown4 hgrow hat hown3
  go_wp2
  go_ret
  exact ⟨_, rfl, by rw [HE.out]; exact hO.low hs1, hB4⟩
set_option maxHeartbeats 4000000 in
set_option maxRecDepth 100000 in
theorem pin_cR (l : List D4) (i : Nat) (h2 : 2 ≤ l.length) (hle : l.length ≤ 1000000) (hok : allD4 l) (hin : i < l.length) (hi : ¬ i < half l.length) (hT : PInC (l.drop (half l.length)) (i - half l.length)) : PInC l i := by
  have _u := hin
  intro b o cap w hr hc hm hTk
  obtain ⟨n, hn⟩ : ∃ n, l.length = n := ⟨_, rfl⟩
  have hk1 := half_lt h2
  have hk0 := half_pos l.length
  obtain ⟨k, hk⟩ : ∃ k, half l.length = k := ⟨_, rfl⟩
  obtain ⟨q, hq⟩ : ∃ q, wayD (l.drop k) (i - k) = q := ⟨_, rfl⟩
  obtain ⟨z, hz⟩ : ∃ z, rootD (l.take k) = z := ⟨_, rfl⟩
  have hqn : q.length ≤ 21 := by rw [← hq]; exact Nat.le_succ_of_le (way_len _ _ 20 _ _ (by rw [List.length_drop]; have : (2 : Nat) ^ 20 = 1048576 := (by decide); omega))
  have HE : Hid (wayD l i = q ++ [z]) := by show _ = _; rw [wayD, way_right pairS noneD l i h2 hi, hk]; show wayD _ _ ++ [rootD _] = _; rw [hq, hz]
  rw [hk] at hk0 hk1 hT hi
  have hlt : (l.take k).length = k := by rw [List.length_take]; omega
  have hld : (l.drop k).length = n - k := by rw [List.length_drop, hn]
  have hD : CRootC (l.take k) := croot_any _ (by rw [List.length_take]; omega) (hok.take k)
  rw [hn] at hk hk1 h2 hle hc hin
  have HZ := Lib.hid hz
  have HQ := Lib.hid hq
  have HK := Lib.hid hk
  have HLT := Lib.hid hlt
  have HLD := Lib.hid hld
  clear hz hq hk hlt hld
  rw [hn]
  clear hn
  have hcm : cap ≤ maxLen := hm
  have hcm2 : cap - k ≤ maxLen := by omega
  unfold maxLen at hm
  have hdi : decide ((i : Int) < (k : Int)) = false := by simp; omega
  have hn1 : ((n : Int) == 1) = false := by simp; omega
  have hwr : IntKind.i64.wrap ((i : Int) - (k : Int)) = ((i - k : Nat) : Int) := by rw [IntWalk.i64_in _ (by omega)]; omega
  have hc1 : (l.take k).length ≤ cap := by rw [HLT.out]; omega
  have hc2 : (l.drop k).length ≤ cap - k := by rw [HLD.out]; omega
  obtain ⟨i0, hinf, hz0, hz1, hz2⟩ := info_parts info_dg
  go_enter Tryd.func51, Tryd.ntmps51
  go_wp2_with fail
  refine (split_any n k cap b o w h2 hle HK.out hc hcm).mono ?_
  rintro e w1 ⟨rfl, hA1⟩
  have hr1 := hr.on hA1
  have hT1 := hTk.below hA1
  have hs1 : w.heap.size ≤ w1.heap.size := hA1.size
  clear hr hTk
  go_wp2_with fail
  refine (pin_val _ _ hT q b (o + k * 4) (n - k) (cap - k) _ w1 (hr1.drop k) HLD.out.symm rfl hc2 hcm2 hT1 HQ.out).mono ?_
  rintro e w2 ⟨v1, rfl, hown1, hA2⟩
  have hB2 := hA1.trans (hA2.mono hA1.size)
  have hr2 := hr1.on hA2
  have hT2 := hT1.below hA2
  clear hr1 hT1 hA1
  go_wp2_with fail
  refine (croot_val _ hD z b o k cap w2 (hr2.take k) HLT.out.symm hc1 hcm hT2 HZ.out).mono ?_
  rintro e w3 ⟨rfl, hA3⟩
  have hown3 := hown1.on hA3
  have hB3 := hB2.trans (hA3.mono hB2.size)
  have hs3 : w1.heap.size ≤ w3.heap.size := Nat.le_trans hA2.size hA3.size
  clear hr2 hT2 hA2 hA3 hown1 hB2
  go_wp2_with (at_builtin; refine wpList_append_lies _ (by rfl) _ _ _ (by rfl) w1.heap.size 24 i0 _ 4 16 Tryd.underlying35 hinf hz0 hz1 hz2 rfl (by omega) v1 q.length (dCells q) (by rfl) (hown3.alloc _) ⟨w3.heap.size, 0, none⟩ 1 1 [.int .u32 z.d0, .int .u32 z.d1, .int .u32 z.d2, .int .u32 z.d3] (by rfl) (by rfl) (World.news_of_block (cs := #[.int .u32 z.d0, .int .u32 z.d1, .int .u32 z.d2, .int .u32 z.d3]) (t := 24) (fr := (0, 0)) (heap_alloc_new w3 _)) (by simp [Value.oneCell']) (by omega) (by unfold maxLen; omega) (by omega) (by simp; omega) (w3.heap.size + 1) (by simp) ?_)
  intro gg gcap w4 hown4 hgrow hat hlt4
  have hB4 : Below w.heap.size w w4 := (hB3.alloc hB3.size _).grown hgrow (by simp; omega) (fun k hk => by have := (World.ownsRow.lt hown3 k hk).1; omega)
  have hO := OwnsD.snoc (d := z) hown4
  clear hown4 hgrow hat hown3
  go_wp2
  go_ret
  exact ⟨_, rfl, by rw [HE.out]; exact hO.low hs1, hB4⟩
end

section
/-! The code's Prove and ProveOn. -/
open Go.RowKit Go.Lib

theorem pin_all : ∀ (n : Nat) (l : List D4), l.length = n → n ≤ 1000000 → allD4 l → ∀ i, i < n → PInC l i := by
  intro n
  induction n using Nat.strongRecOn with
  | _ n ih =>
    intro l hn hle hok i hi
    match l, hn, hok with
    | [], hn, _ => exact absurd hi (by simp at hn; omega)
    | [a], hn, _ =>
      have : i = 0 := by simp at hn; omega
      subst this
      exact pin_c1 a
    | a :: b :: r, hn, hok =>
      have h2 : 2 ≤ (a :: b :: r).length := by simp
      have hl := half_lt h2
      have hp := half_pos (a :: b :: r).length
      by_cases q : i < half (a :: b :: r).length
      · exact pin_cL (a :: b :: r) i h2 (by omega) hok (by omega) q
          (ih (half (a :: b :: r).length) (by omega) ((a :: b :: r).take (half (a :: b :: r).length)) (by rw [List.length_take]; omega) (by omega) (hok.take _) i q)
      · exact pin_cR (a :: b :: r) i h2 (by omega) hok (by omega) q
          (ih ((a :: b :: r).length - half (a :: b :: r).length) (by omega) ((a :: b :: r).drop (half (a :: b :: r).length)) (by rw [List.length_drop]) (by omega) (hok.drop _) (i - half (a :: b :: r).length) (by omega))
/-- The code's Prove: no such place. -/
theorem cprove_no (p : Option Addr) (n cap : Nat) (m : Int) (w : World) (h : m < 0 ∨ (n : Int) ≤ m) : Calls Tryd.prog 30 #[.slice p n cap, .int .i64 m] w fun e w' => e = .returned (.tuple #[.slice none 0 0, .int .i64 1]) ∧ w = w' := by
  by_cases q : m < 0
  · have hd : decide (m < 0) = true := by simp; omega
    go_enter Tryd.func30, Tryd.ntmps30
    go_wp2
    go_ret2
    exact ⟨rfl, rfl⟩
  · have hd : decide (m < 0) = false := by simp; omega
    have hd2 : decide ((n : Int) ≤ m) = true := by simp; omega
    go_enter Tryd.func30, Tryd.ntmps30
    go_wp2
    go_ret2
    exact ⟨rfl, rfl⟩
theorem cprove_any (l : List D4) (i b o cap : Nat) (w : World) (hle : l.length ≤ 1000000) (hok : allD4 l) (hi : i < l.length) (hr : RdL w b o l) (hc : l.length ≤ cap) (hm : cap ≤ maxLen) (hT : TurnsOk w) :
    Calls Tryd.prog 30 #[.slice (some ⟨b, o, none⟩) l.length cap, .int .i64 (i : Int)] w fun e w' => ∃ v, e = .returned (.tuple #[v, .int .i64 0]) ∧ OwnsD w.heap.size v (wayD l i) w' ∧ Below w.heap.size w w' := by
  have H := pin_all l.length l rfl hle hok i hi
  have hcm := hm
  unfold maxLen at hm
  have hd : decide ((i : Int) < 0) = false := by simp
  have hd2 : decide ((l.length : Int) ≤ (i : Int)) = false := by simp; omega
  go_enter Tryd.func30, Tryd.ntmps30
  go_wp2_with fail
  refine (H b o cap w hr hc hcm hT).mono ?_
  rintro e w1 ⟨v, rfl, hO, hB⟩
  go_wp2
  go_ret2
  exact ⟨_, rfl, hO, hB⟩
end

section
/-! The last one that is left is taken: the code's take and usedUp. -/
open Go.RowKit Go.Lib

def takeF (q : List D4) (s : Bool) : D4 × List D4 × Bool := ((takeR zeroD q.reverse s).1, (takeR zeroD q.reverse s).2.1.reverse, (takeR zeroD q.reverse s).2.2)
theorem takeF_nil (s : Bool) : takeF [] s = (zeroD, [], true) := rfl
theorem takeF_snoc (r : List D4) (y : D4) (s : Bool) : takeF (r ++ [y]) s = (y, r, s) := by simp [takeF, takeR]
set_option maxHeartbeats 1000000 in
set_option maxRecDepth 100000 in
theorem take_none (g cap : Nat) (a : Option Addr) (s : Bool) (w : World) (h : restB g (.slice a 0 cap) s w) :
    Calls Tryd.prog 76 #[.pointer (some ⟨g, 0, none⟩)] w fun e w' => e = .returned (.agg #[.int .u32 0, .int .u32 0, .int .u32 0, .int .u32 0]) ∧ Rest w.heap.size g w w' (.slice a 0 cap) true := by
  obtain ⟨w0, hw0⟩ : ∃ w0, w.alloc (.cells #[.int .u32 0, .int .u32 0, .int .u32 0, .int .u32 0] 24) = w0 := ⟨_, rfl⟩
  obtain ⟨hR, hB⟩ := start4 w w0 hw0
  have h0 := h.on hB h.lt
  have hg := h.lt
  have hRest := Rest.ofBelow hB h0
  have hs1 := h0.short (t := true)
  have hRest1 := hRest.short true
  have hRx : Arr .u32 24 w.heap.size [0, 0, 0, 0] (w0.setCell ⟨g, 1, none⟩ (.bool true)) := hR.far (a := ⟨g, 1, none⟩) (show w.heap.size ≠ g by omega) _
  obtain ⟨c0, c1, z0, z1⟩ := h0.cells
  obtain ⟨k0, k1, k2, k3⟩ := Arr.c4 (d := zeroD) hR
  obtain ⟨f0, f1, f2, f3⟩ := hR.f4
  have hne : w.heap.size ≠ g := by omega
  have hne2 : g ≠ w.heap.size := by omega
  have hw1 : IntKind.i64.wrap ((0 : Int) - 1) = -1 := by decide
  go_enter Tryd.func76, Tryd.ntmps76
  go_wp2_with fail
  generalize w0.setCell ⟨g, 1, none⟩ (.bool true) = w1 at *
  have hRf : Arr .u32 24 w.heap.size zeroD.toL ((((w1.setCell ⟨w.heap.size, 0, none⟩ (.int .u32 zeroD.d0)).setCell ⟨w.heap.size, 1, none⟩ (.int .u32 zeroD.d1)).setCell ⟨w.heap.size, 2, none⟩ (.int .u32 zeroD.d2)).setCell ⟨w.heap.size, 3, none⟩ (.int .u32 zeroD.d3)) := put4 (d := zeroD) hRx rfl
  have hBf : Rest w.heap.size g w ((((w1.setCell ⟨w.heap.size, 0, none⟩ (.int .u32 zeroD.d0)).setCell ⟨w.heap.size, 1, none⟩ (.int .u32 zeroD.d1)).setCell ⟨w.heap.size, 2, none⟩ (.int .u32 zeroD.d2)).setCell ⟨w.heap.size, 3, none⟩ (.int .u32 zeroD.d3)) (.slice a 0 cap) true := hRest1.put4 (Nat.le_refl _) hne zeroD
  change bodyPost _ _ _ _ _ ((((w1.setCell ⟨w.heap.size, 0, none⟩ (.int .u32 zeroD.d0)).setCell ⟨w.heap.size, 1, none⟩ (.int .u32 zeroD.d1)).setCell ⟨w.heap.size, 2, none⟩ (.int .u32 zeroD.d2)).setCell ⟨w.heap.size, 3, none⟩ (.int .u32 zeroD.d3))
  generalize ((((w1.setCell ⟨w.heap.size, 0, none⟩ (.int .u32 zeroD.d0)).setCell ⟨w.heap.size, 1, none⟩ (.int .u32 zeroD.d1)).setCell ⟨w.heap.size, 2, none⟩ (.int .u32 zeroD.d2)).setCell ⟨w.heap.size, 3, none⟩ (.int .u32 zeroD.d3)) = wf at *
  obtain ⟨r0, r1, r2, r3⟩ := hRf.c4
  refine bodyPost_ret (v := zeroD.val) (by simp [results, Tryd.results76, go_sem, D4.val, r0, r1, r2, r3]) rfl ⟨rfl, hBf⟩
set_option maxHeartbeats 1000000 in
set_option maxRecDepth 100000 in
theorem take_one (g b o m n cap : Nat) (y : D4) (s : Bool) (w : World) (hn : m + 1 = n) (hc : n ≤ cap) (hm : cap ≤ maxLen) (_hb : b ≠ g) (h : restB g (.slice (some ⟨b, o, none⟩) n cap) s w) (hy : dgAt w b (o + m * 4) y) (hbw : b < w.heap.size) :
    Calls Tryd.prog 76 #[.pointer (some ⟨g, 0, none⟩)] w fun e w' => e = .returned (.agg #[.int .u32 y.d0, .int .u32 y.d1, .int .u32 y.d2, .int .u32 y.d3]) ∧ Rest w.heap.size g w w' (.slice (some ⟨b, o, none⟩) m cap) s := by
  unfold maxLen at hm
  obtain ⟨w0, hw0⟩ : ∃ w0, w.alloc (.cells #[.int .u32 0, .int .u32 0, .int .u32 0, .int .u32 0] 24) = w0 := ⟨_, rfl⟩
  obtain ⟨hR, hB⟩ := start4 w w0 hw0
  have h0 := h.on hB h.lt
  have hg := h.lt
  have hsz : w0.heap.size = w.heap.size + 1 := by rw [← hw0]; simp
  obtain ⟨w1, hw1⟩ : ∃ w1, w0.alloc (.cells #[.int .u32 y.d0, .int .u32 y.d1, .int .u32 y.d2, .int .u32 y.d3] 24) = w1 := ⟨_, rfl⟩
  have h1 : restB g (.slice (some ⟨b, o, none⟩) n cap) s w1 := by rw [← hw1]; exact h0.al _
  have hX : Arr .u32 24 (w.heap.size + 1) y.toL w1 := by rw [← hw1, ← hsz]; exact heap_alloc_new w0 _
  have hB1 : Below w.heap.size w w1 := by rw [← hw1]; exact hB.alloc (by omega) _
  have hR1 : Arr .u32 24 w.heap.size [0, 0, 0, 0] w1 := by rw [← hw1]; exact hR.al _
  obtain ⟨w2, hw2⟩ : ∃ w2, w1.setCell ⟨g, 0, none⟩ (.slice (some ⟨b, o, none⟩) m cap) = w2 := ⟨_, rfl⟩
  have hRest : Rest w.heap.size g w w2 (.slice (some ⟨b, o, none⟩) m cap) s := by rw [← hw2]; exact (Rest.ofBelow hB1 h1).left _
  have hX2 : Arr .u32 24 (w.heap.size + 1) y.toL w2 := by rw [← hw2]; exact hX.far (a := ⟨g, 0, none⟩) (show w.heap.size + 1 ≠ g by omega) _
  have hR2 : Arr .u32 24 w.heap.size [0, 0, 0, 0] w2 := by rw [← hw2]; exact hR1.far (a := ⟨g, 0, none⟩) (show w.heap.size ≠ g by omega) _
  have hy0 : dgAt w0 b (o + m * 4) y := hy.on hB hbw
  obtain ⟨y0, y1, y2, y3⟩ := hy0
  obtain ⟨c0, _, z0, _⟩ := h0.cells
  obtain ⟨c0', _, z0', _⟩ := h1.cells
  obtain ⟨x0, x1, x2, x3⟩ := Arr.c4 hX2
  obtain ⟨k0, k1, k2, k3⟩ := Arr.c4 (d := zeroD) hR2
  obtain ⟨f0, f1, f2, f3⟩ := hR2.f4
  have hne : w.heap.size ≠ g := by omega
  have hNw : IntKind.i64.wrap ((n : Int) - 1) = (m : Int) := by rw [IntWalk.i64_in _ (by omega)]; omega
  have hm0 : (0 : Int) ≤ (m : Int) := by omega
  have hlt0 : decide ((m : Int) < 0) = false := by simp
  have hmN : (m : Int) < (n : Int) := by omega
  have hmN2 : (m : Int) ≤ (n : Int) := by omega
  have hmc : (m : Int) ≤ (cap : Int) := by omega
  have hRf : Arr .u32 24 w.heap.size y.toL ((((w2.setCell ⟨w.heap.size, 0, none⟩ (.int .u32 y.d0)).setCell ⟨w.heap.size, 1, none⟩ (.int .u32 y.d1)).setCell ⟨w.heap.size, 2, none⟩ (.int .u32 y.d2)).setCell ⟨w.heap.size, 3, none⟩ (.int .u32 y.d3)) := put4 (d := y) hR2 rfl
  have hBf : Rest w.heap.size g w ((((w2.setCell ⟨w.heap.size, 0, none⟩ (.int .u32 y.d0)).setCell ⟨w.heap.size, 1, none⟩ (.int .u32 y.d1)).setCell ⟨w.heap.size, 2, none⟩ (.int .u32 y.d2)).setCell ⟨w.heap.size, 3, none⟩ (.int .u32 y.d3)) (.slice (some ⟨b, o, none⟩) m cap) s := hRest.put4 (Nat.le_refl _) hne y
  have HN := Lib.hid hn
  clear hn hRest hX hX2 hR hR1 hR2 hB hB1 h h0 h1 hy
  go_enter Tryd.func76, Tryd.ntmps76
  go_wp2_with fail
  generalize ((((w2.setCell ⟨w.heap.size, 0, none⟩ (.int .u32 y.d0)).setCell ⟨w.heap.size, 1, none⟩ (.int .u32 y.d1)).setCell ⟨w.heap.size, 2, none⟩ (.int .u32 y.d2)).setCell ⟨w.heap.size, 3, none⟩ (.int .u32 y.d3)) = wf at *
  obtain ⟨r0, r1, r2, r3⟩ := hRf.c4
  refine bodyPost_ret (v := y.val) (by simp [results, Tryd.results76, go_sem, D4.val, r0, r1, r2, r3]) rfl ⟨rfl, hBf⟩
/-- One is taken, or none was left. -/
theorem rtk_any (q q' : List D4) (y : D4) (g cap : Nat) (a : Option Addr) (s s' : Bool) (n : Nat) (w : World) (hq : takeF q s = (y, q', s')) (hn : n = q.length) (h : restB g (.slice a n cap) s w) (hr : RdG g w a q) (hc : n ≤ cap) (hm : cap ≤ maxLen) :
    Calls Tryd.prog 76 #[.pointer (some ⟨g, 0, none⟩)] w fun e w' => e = .returned (.agg #[.int .u32 y.d0, .int .u32 y.d1, .int .u32 y.d2, .int .u32 y.d3]) ∧ Rest w.heap.size g w w' (.slice a q'.length cap) s' ∧ RdG g w' a q' ∧ q'.length ≤ cap := by
  subst hn
  rcases List.eq_nil_or_concat q with rfl | ⟨r, x, rfl⟩
  · rw [takeF_nil] at hq
    simp only [Prod.mk.injEq] at hq
    obtain ⟨rfl, rfl, rfl⟩ := hq
    refine (take_none g cap a s w h).mono ?_
    rintro e w1 ⟨rfl, hR⟩
    exact ⟨rfl, hR, fun q => absurd rfl q, Nat.zero_le _⟩
  · rw [List.concat_eq_append] at *
    rw [takeF_snoc] at hq
    simp only [Prod.mk.injEq] at hq
    obtain ⟨rfl, rfl, rfl⟩ := hq
    obtain ⟨b, o, rfl, hb, hrd⟩ := hr (by simp)
    have hl : r.length + 1 = (r ++ [x]).length := by simp
    refine (take_one g b o r.length _ cap x s w hl hc hm hb h hrd.last hrd.1).mono ?_
    rintro e w1 ⟨rfl, hR⟩
    exact ⟨rfl, hR, hr.init.onR hR, by omega⟩
/-- Is nothing left, and was no more taken than there was? -/
theorem usedUp_any (g n cap : Nat) (a : Option Addr) (s : Bool) (w : World) (h : restB g (.slice a n cap) s w) :
    Calls Tryd.prog 60 #[.pointer (some ⟨g, 0, none⟩)] w fun e w' => e = .returned (.bool (((n : Int) == 0) && !s)) ∧ w = w' := by
  obtain ⟨c0, c1, z0, z1⟩ := h.cells
  obtain ⟨q, hq⟩ : ∃ q, ((n : Int) == 0) = q := ⟨_, rfl⟩
  rw [hq]
  cases q <;> cases s <;> (go_enter Tryd.func60, Tryd.ntmps60; go_wp2; go_ret; exact ⟨rfl, rfl⟩)
end

section
/-! The root that comes of a proof that is used up from its end: the code's root (written by gen_root.py). -/
open Go.RowKit Go.Lib

def rootF (n i : Nat) (x : D4) (q : List D4) (s : Bool) : D4 × List D4 × Bool := ((rootR pairS zeroD n i x q.reverse s).1, (rootR pairS zeroD n i x q.reverse s).2.1.reverse, (rootR pairS zeroD n i x q.reverse s).2.2)
theorem rootF_one {n : Nat} (h : n ≤ 1) (i : Nat) (x : D4) (q : List D4) (s : Bool) : rootF n i x q s = (x, q, s) := by simp [rootF, rootR_one pairS zeroD h]
theorem rootF_left {n i : Nat} (h : ¬ n ≤ 1) (hi : i < half n) (x : D4) (q : List D4) (s : Bool) : rootF n i x q s = (pairS (rootF (half n) i x (takeF q s).2.1 (takeF q s).2.2).1 (takeF q s).1, (rootF (half n) i x (takeF q s).2.1 (takeF q s).2.2).2) := by
  simp only [rootF, takeF, rootR_left pairS zeroD h hi, List.reverse_reverse]
theorem rootF_right {n i : Nat} (h : ¬ n ≤ 1) (hi : ¬ i < half n) (x : D4) (q : List D4) (s : Bool) : rootF n i x q s = (pairS (takeF q s).1 (rootF (n - half n) (i - half n) x (takeF q s).2.1 (takeF q s).2.2).1, (rootF (n - half n) (i - half n) x (takeF q s).2.1 (takeF q s).2.2).2) := by
  simp only [rootF, takeF, rootR_right pairS zeroD h hi, List.reverse_reverse]
theorem zeroD_ok : zeroD.ok := by simp [D4.ok, zeroD, isW]
theorem takeF_ok {q : List D4} (h : allD4 q) (s : Bool) : (takeF q s).1.ok ∧ allD4 (takeF q s).2.1 := by
  rcases List.eq_nil_or_concat q with rfl | ⟨r, x, rfl⟩
  · rw [takeF_nil]; exact ⟨zeroD_ok, h⟩
  · rw [List.concat_eq_append] at *
    rw [takeF_snoc]; exact ⟨h.lastOk, h.left⟩
theorem rootF_ok : ∀ (n : Nat) (i : Nat) (x : D4) (q : List D4) (s : Bool), x.ok → allD4 q → (rootF n i x q s).1.ok := by
  intro n
  induction n using Nat.strongRecOn with
  | _ n ih =>
    intro i x q s hx hq
    by_cases h : n ≤ 1
    · rw [rootF_one h]; exact hx
    · have h1 := half_lt (show 2 ≤ n by omega)
      have h2 := half_pos n
      by_cases k : i < half n
      · rw [rootF_left h k]; exact pairS_ok (ih _ h1 _ _ _ _ hx (takeF_ok hq s).2) (takeF_ok hq s).1
      · rw [rootF_right h k]; exact pairS_ok (takeF_ok hq s).1 (ih _ (by omega) _ _ _ _ hx (takeF_ok hq s).2)
theorem cell_inS {w : World} {b : Nat} {v : Value} (h : w.cell? ⟨b, 0, none⟩ = some v) : b < w.heap.size := by
  rcases Nat.lt_or_ge b w.heap.size with q | q
  · exact q
  · simp [World.cell?, Array.getElem?_eq_none q] at h
theorem keep2 {x y : D4} {X Y : Nat} {W w' : World} (h1 : w'.heap[X]? = W.heap[X]?) (h2 : w'.heap[Y]? = W.heap[Y]?) (f : W.cell? ⟨X, 0, none⟩ = some (.int .u32 x.d0) ∧ W.cell? ⟨X, 1, none⟩ = some (.int .u32 x.d1) ∧ W.cell? ⟨X, 2, none⟩ = some (.int .u32 x.d2) ∧ W.cell? ⟨X, 3, none⟩ = some (.int .u32 x.d3) ∧ W.cell? ⟨Y, 0, none⟩ = some (.int .u32 y.d0) ∧ W.cell? ⟨Y, 1, none⟩ = some (.int .u32 y.d1) ∧ W.cell? ⟨Y, 2, none⟩ = some (.int .u32 y.d2) ∧ W.cell? ⟨Y, 3, none⟩ = some (.int .u32 y.d3)) : w'.cell? ⟨X, 0, none⟩ = some (.int .u32 x.d0) ∧ w'.cell? ⟨X, 1, none⟩ = some (.int .u32 x.d1) ∧ w'.cell? ⟨X, 2, none⟩ = some (.int .u32 x.d2) ∧ w'.cell? ⟨X, 3, none⟩ = some (.int .u32 x.d3) ∧ w'.cell? ⟨Y, 0, none⟩ = some (.int .u32 y.d0) ∧ w'.cell? ⟨Y, 1, none⟩ = some (.int .u32 y.d1) ∧ w'.cell? ⟨Y, 2, none⟩ = some (.int .u32 y.d2) ∧ w'.cell? ⟨Y, 3, none⟩ = some (.int .u32 y.d3) := by
  have e1 : ∀ j, w'.cell? ⟨X, j, none⟩ = W.cell? ⟨X, j, none⟩ := fun j => World.cell?_of_block (w := W) h1
  have e2 : ∀ j, w'.cell? ⟨Y, j, none⟩ = W.cell? ⟨Y, j, none⟩ := fun j => World.cell?_of_block (w := W) h2
  simp only [e1, e2]
  exact f
theorem keep2b {x y : D4} {X Y : Nat} {W w' : World} (h : Below W.heap.size W w') (f : W.cell? ⟨X, 0, none⟩ = some (.int .u32 x.d0) ∧ W.cell? ⟨X, 1, none⟩ = some (.int .u32 x.d1) ∧ W.cell? ⟨X, 2, none⟩ = some (.int .u32 x.d2) ∧ W.cell? ⟨X, 3, none⟩ = some (.int .u32 x.d3) ∧ W.cell? ⟨Y, 0, none⟩ = some (.int .u32 y.d0) ∧ W.cell? ⟨Y, 1, none⟩ = some (.int .u32 y.d1) ∧ W.cell? ⟨Y, 2, none⟩ = some (.int .u32 y.d2) ∧ W.cell? ⟨Y, 3, none⟩ = some (.int .u32 y.d3)) : w'.cell? ⟨X, 0, none⟩ = some (.int .u32 x.d0) ∧ w'.cell? ⟨X, 1, none⟩ = some (.int .u32 x.d1) ∧ w'.cell? ⟨X, 2, none⟩ = some (.int .u32 x.d2) ∧ w'.cell? ⟨X, 3, none⟩ = some (.int .u32 x.d3) ∧ w'.cell? ⟨Y, 0, none⟩ = some (.int .u32 y.d0) ∧ w'.cell? ⟨Y, 1, none⟩ = some (.int .u32 y.d1) ∧ w'.cell? ⟨Y, 2, none⟩ = some (.int .u32 y.d2) ∧ w'.cell? ⟨Y, 3, none⟩ = some (.int .u32 y.d3) := keep2 (h.block X (cell_inS f.1)) (h.block Y (cell_inS f.2.2.2.2.1)) f
theorem keep2r {x y : D4} {X Y g : Nat} {W w' : World} {v : Value} {s : Bool} (h : Rest W.heap.size g W w' v s) (hX : X ≠ g) (hY : Y ≠ g) (f : W.cell? ⟨X, 0, none⟩ = some (.int .u32 x.d0) ∧ W.cell? ⟨X, 1, none⟩ = some (.int .u32 x.d1) ∧ W.cell? ⟨X, 2, none⟩ = some (.int .u32 x.d2) ∧ W.cell? ⟨X, 3, none⟩ = some (.int .u32 x.d3) ∧ W.cell? ⟨Y, 0, none⟩ = some (.int .u32 y.d0) ∧ W.cell? ⟨Y, 1, none⟩ = some (.int .u32 y.d1) ∧ W.cell? ⟨Y, 2, none⟩ = some (.int .u32 y.d2) ∧ W.cell? ⟨Y, 3, none⟩ = some (.int .u32 y.d3)) : w'.cell? ⟨X, 0, none⟩ = some (.int .u32 x.d0) ∧ w'.cell? ⟨X, 1, none⟩ = some (.int .u32 x.d1) ∧ w'.cell? ⟨X, 2, none⟩ = some (.int .u32 x.d2) ∧ w'.cell? ⟨X, 3, none⟩ = some (.int .u32 x.d3) ∧ w'.cell? ⟨Y, 0, none⟩ = some (.int .u32 y.d0) ∧ w'.cell? ⟨Y, 1, none⟩ = some (.int .u32 y.d1) ∧ w'.cell? ⟨Y, 2, none⟩ = some (.int .u32 y.d2) ∧ w'.cell? ⟨Y, 3, none⟩ = some (.int .u32 y.d3) := keep2 (h.block X (cell_inS f.1) hX) (h.block Y (cell_inS f.2.2.2.2.1) hY) f
theorem keep2s {x y v : D4} {X Y C : Nat} {W : World} (hX : X ≠ C) (hY : Y ≠ C) (f : W.cell? ⟨X, 0, none⟩ = some (.int .u32 x.d0) ∧ W.cell? ⟨X, 1, none⟩ = some (.int .u32 x.d1) ∧ W.cell? ⟨X, 2, none⟩ = some (.int .u32 x.d2) ∧ W.cell? ⟨X, 3, none⟩ = some (.int .u32 x.d3) ∧ W.cell? ⟨Y, 0, none⟩ = some (.int .u32 y.d0) ∧ W.cell? ⟨Y, 1, none⟩ = some (.int .u32 y.d1) ∧ W.cell? ⟨Y, 2, none⟩ = some (.int .u32 y.d2) ∧ W.cell? ⟨Y, 3, none⟩ = some (.int .u32 y.d3)) : ((((W.setCell ⟨C, 0, none⟩ (.int .u32 v.d0)).setCell ⟨C, 1, none⟩ (.int .u32 v.d1)).setCell ⟨C, 2, none⟩ (.int .u32 v.d2)).setCell ⟨C, 3, none⟩ (.int .u32 v.d3)).cell? ⟨X, 0, none⟩ = some (.int .u32 x.d0) ∧ ((((W.setCell ⟨C, 0, none⟩ (.int .u32 v.d0)).setCell ⟨C, 1, none⟩ (.int .u32 v.d1)).setCell ⟨C, 2, none⟩ (.int .u32 v.d2)).setCell ⟨C, 3, none⟩ (.int .u32 v.d3)).cell? ⟨X, 1, none⟩ = some (.int .u32 x.d1) ∧ ((((W.setCell ⟨C, 0, none⟩ (.int .u32 v.d0)).setCell ⟨C, 1, none⟩ (.int .u32 v.d1)).setCell ⟨C, 2, none⟩ (.int .u32 v.d2)).setCell ⟨C, 3, none⟩ (.int .u32 v.d3)).cell? ⟨X, 2, none⟩ = some (.int .u32 x.d2) ∧ ((((W.setCell ⟨C, 0, none⟩ (.int .u32 v.d0)).setCell ⟨C, 1, none⟩ (.int .u32 v.d1)).setCell ⟨C, 2, none⟩ (.int .u32 v.d2)).setCell ⟨C, 3, none⟩ (.int .u32 v.d3)).cell? ⟨X, 3, none⟩ = some (.int .u32 x.d3) ∧ ((((W.setCell ⟨C, 0, none⟩ (.int .u32 v.d0)).setCell ⟨C, 1, none⟩ (.int .u32 v.d1)).setCell ⟨C, 2, none⟩ (.int .u32 v.d2)).setCell ⟨C, 3, none⟩ (.int .u32 v.d3)).cell? ⟨Y, 0, none⟩ = some (.int .u32 y.d0) ∧ ((((W.setCell ⟨C, 0, none⟩ (.int .u32 v.d0)).setCell ⟨C, 1, none⟩ (.int .u32 v.d1)).setCell ⟨C, 2, none⟩ (.int .u32 v.d2)).setCell ⟨C, 3, none⟩ (.int .u32 v.d3)).cell? ⟨Y, 1, none⟩ = some (.int .u32 y.d1) ∧ ((((W.setCell ⟨C, 0, none⟩ (.int .u32 v.d0)).setCell ⟨C, 1, none⟩ (.int .u32 v.d1)).setCell ⟨C, 2, none⟩ (.int .u32 v.d2)).setCell ⟨C, 3, none⟩ (.int .u32 v.d3)).cell? ⟨Y, 2, none⟩ = some (.int .u32 y.d2) ∧ ((((W.setCell ⟨C, 0, none⟩ (.int .u32 v.d0)).setCell ⟨C, 1, none⟩ (.int .u32 v.d1)).setCell ⟨C, 2, none⟩ (.int .u32 v.d2)).setCell ⟨C, 3, none⟩ (.int .u32 v.d3)).cell? ⟨Y, 3, none⟩ = some (.int .u32 y.d3) :=
  keep2 (by rw [Below.heap_setCell _ _ _ _ hX, Below.heap_setCell _ _ _ _ hX, Below.heap_setCell _ _ _ _ hX, Below.heap_setCell _ _ _ _ hX]) (by rw [Below.heap_setCell _ _ _ _ hY, Below.heap_setCell _ _ _ _ hY, Below.heap_setCell _ _ _ _ hY, Below.heap_setCell _ _ _ _ hY]) f
/-- What the code's root answers. -/
def RRC (n : Nat) : Prop := ∀ (i : Nat) (x : D4) (q : List D4) (s : Bool) (g cap : Nat) (a : Option Addr) (w : World), i ≤ 1000000 → x.ok → allD4 q → restB g (.slice a q.length cap) s w → RdG g w a q → q.length ≤ cap → cap ≤ maxLen → TurnsOk w →
  Calls Tryd.prog 59 #[.pointer (some ⟨g, 0, none⟩), .int .i64 (n : Int), .int .i64 (i : Int), x.val] w fun e w' => e = .returned (rootF n i x q s).1.val ∧ Rest w.heap.size g w w' (.slice a (rootF n i x q s).2.1.length cap) (rootF n i x q s).2.2
theorem rr_val (n : Nat) (H : RRC n) (i : Nat) (x z : D4) (q q' : List D4) (s s' : Bool) (g cap : Nat) (a : Option Addr) (u v : Int) (w : World) (hu : (n : Int) = u) (hv : (i : Int) = v) (hi : i ≤ 1000000) (hx : x.ok) (hq : allD4 q) (hR : restB g (.slice a q.length cap) s w) (hr : RdG g w a q) (hc : q.length ≤ cap) (hm : cap ≤ maxLen) (hT : TurnsOk w) (hz : rootF n i x q s = (z, q', s')) :
    Calls Tryd.prog 59 #[.pointer (some ⟨g, 0, none⟩), .int .i64 u, .int .i64 v, .agg #[.int .u32 x.d0, .int .u32 x.d1, .int .u32 x.d2, .int .u32 x.d3]] w fun e w' => e = .returned (.agg #[.int .u32 z.d0, .int .u32 z.d1, .int .u32 z.d2, .int .u32 z.d3]) ∧ Rest w.heap.size g w w' (.slice a q'.length cap) s' := by
  subst hu; subst hv
  have := H i x q s g cap a w hi hx hq hR hr hc hm hT
  rw [hz] at this
  exact this
set_option maxHeartbeats 1000000 in
set_option maxRecDepth 100000 in
theorem rr_one : RRC 1 := by
  intro i x q s g cap a w hi hx hq hR hr hc hm hT
  have HE : Hid (rootF 1 i x q s = (x, q, s)) := rootF_one (Nat.le_refl _) i x q s
  obtain ⟨N, hN⟩ : ∃ N, q.length = N := ⟨_, rfl⟩
  have HN := Lib.hid hN
  rw [hN] at hR hc
  clear hN
  obtain ⟨w0, hw0⟩ : ∃ w0, (w.alloc (.cells #[.int .u32 x.d0, .int .u32 x.d1, .int .u32 x.d2, .int .u32 x.d3] 24)).alloc (.cells #[.int .u32 0, .int .u32 0, .int .u32 0, .int .u32 0] 24) = w0 := ⟨_, rfl⟩
  obtain ⟨hL, hS, hB, hsz⟩ := start44 x w w0 hw0
  have hg := hR.lt
  have hRest := Rest.ofBelow hB (hR.on hB hg)
  obtain ⟨l0, l1, l2, l3⟩ := Arr.c4 hL
  obtain ⟨k0, k1, k2, k3⟩ := Arr.c4 (d := zeroD) hS
  obtain ⟨f0, f1, f2, f3⟩ := hS.f4
  have hRf := put4 (d := x) hS rfl
  have hBf : Rest w.heap.size g w ((((w0.setCell ⟨w.heap.size + 1, 0, none⟩ (.int .u32 x.d0)).setCell ⟨w.heap.size + 1, 1, none⟩ (.int .u32 x.d1)).setCell ⟨w.heap.size + 1, 2, none⟩ (.int .u32 x.d2)).setCell ⟨w.heap.size + 1, 3, none⟩ (.int .u32 x.d3)) (.slice a N cap) s := hRest.put4 (by omega) (by omega) x
  clear hS hB hL hR hRest
  go_enter Tryd.func59, Tryd.ntmps59
  simp only [D4.val]
  go_wp2_with fail
  clear hw0
  generalize ((((w0.setCell ⟨w.heap.size + 1, 0, none⟩ (.int .u32 x.d0)).setCell ⟨w.heap.size + 1, 1, none⟩ (.int .u32 x.d1)).setCell ⟨w.heap.size + 1, 2, none⟩ (.int .u32 x.d2)).setCell ⟨w.heap.size + 1, 3, none⟩ (.int .u32 x.d3)) = wf at *
  obtain ⟨r0, r1, r2, r3⟩ := hRf.c4
  refine bodyPost_ret (v := x.val) (by simp [results, Tryd.results59, go_sem, D4.val, r0, r1, r2, r3]) rfl ⟨by rw [HE.out]; rfl, by rw [HE.out]; show Rest _ _ _ _ (.slice a q.length cap) s; rw [HN.out]; exact hBf⟩
set_option maxHeartbeats 4000000 in
set_option maxRecDepth 100000 in
theorem rr_left (n : Nat) (h2 : 2 ≤ n) (hle : n ≤ 1000000) (H : RRC (half n)) (i : Nat) (hi : i < half n) (x : D4) (q : List D4) (s : Bool) (g cap : Nat) (a : Option Addr) (w : World) (hil : i ≤ 1000000) (hx : x.ok) (hq : allD4 q) (hR : restB g (.slice a q.length cap) s w) (hr : RdG g w a q) (hc : q.length ≤ cap) (hm : cap ≤ maxLen) (hT : TurnsOk w) :
    Calls Tryd.prog 59 #[.pointer (some ⟨g, 0, none⟩), .int .i64 (n : Int), .int .i64 (i : Int), x.val] w fun e w' => e = .returned (rootF n i x q s).1.val ∧ Rest w.heap.size g w w' (.slice a (rootF n i x q s).2.1.length cap) (rootF n i x q s).2.2 := by
  have hk1 := half_lt h2
  have hk0 := half_pos n
  obtain ⟨k, hk⟩ : ∃ k, half n = k := ⟨_, rfl⟩
  obtain ⟨⟨y, q1, s1⟩, ht⟩ : ∃ t, takeF q s = t := ⟨_, rfl⟩
  obtain ⟨⟨z, q2, s2⟩, hz⟩ : ∃ t, rootF (half n) i x q1 s1 = t := ⟨_, rfl⟩
  obtain ⟨v, hv⟩ : ∃ v, pairS z y = v := ⟨_, rfl⟩
  have HE : Hid (rootF n i x q s = (v, q2, s2)) := by show _ = _; rw [rootF_left (by omega) hi, ht, ← hv]; show (pairS (rootF (half n) i x q1 s1).1 y, (rootF (half n) i x q1 s1).2) = _; rw [hz]
  have hto := takeF_ok hq s
  rw [ht] at hto
  obtain ⟨hyo, hq1⟩ := hto
  have hyo : y.ok := hyo
  have hq1 : allD4 q1 := hq1
  have hzo : z.ok := by
    have := rootF_ok (half n) i x q1 s1 hx hq1
    rw [hz] at this
    exact this
  rw [hk] at hk0 hk1 hi H hz
  obtain ⟨N, hN⟩ : ∃ N, q.length = N := ⟨_, rfl⟩
  rw [hN] at hR hc
  have HT := Lib.hid ht
  have HZ := Lib.hid hz
  have HV := Lib.hid hv
  have HK := Lib.hid hk
  have HN := Lib.hid hN
  clear ht hz hv hk hN
  have hn1 : ((n : Int) == 1) = false := by simp; omega
  have hdi : decide ((i : Int) < (k : Int)) = true := by simp; omega
  obtain ⟨w0, hw0⟩ : ∃ w0, (w.alloc (.cells #[.int .u32 x.d0, .int .u32 x.d1, .int .u32 x.d2, .int .u32 x.d3] 24)).alloc (.cells #[.int .u32 0, .int .u32 0, .int .u32 0, .int .u32 0] 24) = w0 := ⟨_, rfl⟩
  obtain ⟨hL, hS, hB, hsz⟩ := start44 x w w0 hw0
  have hg := hR.lt
  have hRest0 := Rest.ofBelow hB (hR.on hB hg)
  have hr0 := hr.on hB
  have hT0 := hT.below hB
  clear hr hT hR hB
  go_enter Tryd.func59, Tryd.ntmps59
  simp only [D4.val]
  go_wp2_with fail
  clear hw0
  refine (chalf_any n w0 h2 hle).mono ?_
  rintro e w0 ⟨rfl, rfl⟩
  rw [HK.out]
  go_wp2_with fail
  refine (rtk_any q q1 y g cap a s s1 N w0 HT.out HN.out.symm hRest0.here hr0 hc hm).mono ?_
  rintro e w1 ⟨rfl, hA1, hr1, hc1⟩
  have hT1 := hT0.onR hA1 (Nat.le_refl _) hRest0.here
  have hL1 := hL.onR hA1 hL.lt (by omega)
  have hS1 := hS.onR hA1 hS.lt (by omega)
  have hRest1 := hRest0.trans hA1 hRest0.size
  have hs1 := Nat.le_trans hRest0.size hA1.size
  have hs01 : w.heap.size + 1 + 1 ≤ w1.heap.size := by have := hA1.size; omega
  clear hr0 hT0 hL hS hRest0 hA1 hsz hs1
  obtain ⟨w2, hw2⟩ : ∃ w2, w1.alloc (.cells #[.int .u32 y.d0, .int .u32 y.d1, .int .u32 y.d2, .int .u32 y.d3] 24) = w2 := ⟨_, rfl⟩
  have hY2 : Arr .u32 24 w1.heap.size y.toL w2 := by rw [← hw2]; exact heap_alloc_new w1 _
  have hAl : Below w1.heap.size w1 w2 := by rw [← hw2]; exact (Below.refl _ _).alloc (Nat.le_refl _) _
  have hL2 := hL1.on hAl
  have hS2 := hS1.on hAl
  have hT2 := hT1.below hAl
  have hr2 := hr1.on hAl
  have hRest2 := hRest1.below hAl (by omega) (by omega)
  have hs12 := hAl.size
  have hlt2 := hY2.lt
  clear hL1 hS1 hT1 hr1 hRest1 hAl
  obtain ⟨l0, l1, l2, l3⟩ := Arr.c4 hL2
  obtain ⟨y0, y1, y2, y3⟩ := Arr.c4 hY2
  go_wp2_with fail
  have hRest3 : Rest w.heap.size g w w2.drew (.slice a q1.length cap) s1 := hRest2.below (Below.refl _ _).drew (by omega) hRest2.here.lt
  have hrB : restB g (.slice a q1.length cap) s1 w2.drew := hRest2.here
  have hrd : RdG g w2.drew a q1 := hr2
  have hTd : TurnsOk w2.drew := hT2
  have hYd : Arr .u32 24 w1.heap.size y.toL w2.drew := hY2
  have hSd : Arr .u32 24 (w.heap.size + 1) [0, 0, 0, 0] w2.drew := hS2
  have hsd : w.heap.size ≤ w2.drew.heap.size := by show _ ≤ w2.heap.size; omega
  have hL4 := Arr.c4 (show Arr .u32 24 w.heap.size x.toL w2.drew from hL2)
  have hY4 := hYd.c4
  have hS0 : w2.drew.cell? ⟨w.heap.size, 0, none⟩ = some (.int .u32 x.d0) ∧ w2.drew.cell? ⟨w.heap.size, 1, none⟩ = some (.int .u32 x.d1) ∧ w2.drew.cell? ⟨w.heap.size, 2, none⟩ = some (.int .u32 x.d2) ∧ w2.drew.cell? ⟨w.heap.size, 3, none⟩ = some (.int .u32 x.d3) ∧ w2.drew.cell? ⟨w1.heap.size, 0, none⟩ = some (.int .u32 y.d0) ∧ w2.drew.cell? ⟨w1.heap.size, 1, none⟩ = some (.int .u32 y.d1) ∧ w2.drew.cell? ⟨w1.heap.size, 2, none⟩ = some (.int .u32 y.d2) ∧ w2.drew.cell? ⟨w1.heap.size, 3, none⟩ = some (.int .u32 y.d3) := ⟨hL4.1, hL4.2.1, hL4.2.2.1, hL4.2.2.2, hY4.1, hY4.2.1, hY4.2.2.1, hY4.2.2.2⟩
  have HS0 := Lib.hid hS0
  have hxg : w.heap.size ≠ g := by omega
  have hyg : w1.heap.size ≠ g := by omega
  have hxc : w.heap.size ≠ w.heap.size + 1 := by omega
  have hyc : w1.heap.size ≠ w.heap.size + 1 := by omega
  clear hRest2 hr2 hT2 hS2 hS0 hL4 hY4 hL2 hY2 l0 l1 l2 l3 y0 y1 y2 y3 hw2
  go_region_held3 (fun w' => w'.cell? ⟨w.heap.size, 0, none⟩ = some (.int .u32 x.d0) ∧ w'.cell? ⟨w.heap.size, 1, none⟩ = some (.int .u32 x.d1) ∧ w'.cell? ⟨w.heap.size, 2, none⟩ = some (.int .u32 x.d2) ∧ w'.cell? ⟨w.heap.size, 3, none⟩ = some (.int .u32 x.d3) ∧ w'.cell? ⟨w1.heap.size, 0, none⟩ = some (.int .u32 y.d0) ∧ w'.cell? ⟨w1.heap.size, 1, none⟩ = some (.int .u32 y.d1) ∧ w'.cell? ⟨w1.heap.size, 2, none⟩ = some (.int .u32 y.d2) ∧ w'.cell? ⟨w1.heap.size, 3, none⟩ = some (.int .u32 y.d3))
    (first | ((with_reducible refine keep2s hxc hyc ?_); assumption) | ((with_reducible refine keep2b hA4 ?_); assumption) | ((with_reducible refine keep2r hA3 hxg hyg ?_); assumption) | (with_reducible exact HS0.out))
    (first
      | (go_at_call 59; (with_reducible refine (rr_val k H i x z q1 q2 s1 s2 g cap a _ _ _ (by first | rfl | omega) (by first | rfl | omega) (by omega) hx hq1 hrB hrd hc1 hm hTd HZ.out).mono ?_); rintro e w3 ⟨rfl, hA3⟩; have hY3 := hYd.onR hA3 hYd.lt (by omega); have hS3 := hSd.onR hA3 hSd.lt (by omega); have hRest4 := hRest3.trans hA3 hsd; have hT3 := hTd.onR hA3 (Nat.le_refl _) hrB; have hs3 := hA3.size; obtain ⟨t0, t1, t2, t3⟩ := Arr.c4 hY3)
      | (go_at_call 48; (with_reducible refine (cpair_val z y v _ hzo hyo hT3 HV.out).mono ?_); rintro e w4 ⟨rfl, hA4⟩; have hS4 := hS3.on hA4; have hRest5 := hRest4.below hA4 (Nat.le_trans hsd hs3) hRest4.here.lt; obtain ⟨k0, k1, k2, k3⟩ := Arr.c4 (d := zeroD) hS4; obtain ⟨f0, f1, f2, f3⟩ := hS4.f4))
  all_goals
    have hRf := put4 (d := v) hS4 rfl
    have hBf : Rest w.heap.size g w ((((w4.setCell ⟨w.heap.size + 1, 0, none⟩ (.int .u32 v.d0)).setCell ⟨w.heap.size + 1, 1, none⟩ (.int .u32 v.d1)).setCell ⟨w.heap.size + 1, 2, none⟩ (.int .u32 v.d2)).setCell ⟨w.heap.size + 1, 3, none⟩ (.int .u32 v.d3)) (.slice a q2.length cap) s2 := hRest5.put4 (by omega) (by omega) v
    go_wp2_with fail
    generalize ((((w4.setCell ⟨w.heap.size + 1, 0, none⟩ (.int .u32 v.d0)).setCell ⟨w.heap.size + 1, 1, none⟩ (.int .u32 v.d1)).setCell ⟨w.heap.size + 1, 2, none⟩ (.int .u32 v.d2)).setCell ⟨w.heap.size + 1, 3, none⟩ (.int .u32 v.d3)) = wf at *
    obtain ⟨r0, r1, r2, r3⟩ := hRf.c4
    refine bodyPost_ret (v := v.val) (by simp [results, Tryd.results59, go_sem, D4.val, r0, r1, r2, r3]) rfl ⟨by rw [HE.out]; rfl, by rw [HE.out]; exact hBf⟩
set_option maxHeartbeats 4000000 in
set_option maxRecDepth 100000 in
theorem rr_right (n : Nat) (h2 : 2 ≤ n) (hle : n ≤ 1000000) (H : RRC (n - half n)) (i : Nat) (hi : ¬ i < half n) (x : D4) (q : List D4) (s : Bool) (g cap : Nat) (a : Option Addr) (w : World) (hil : i ≤ 1000000) (hx : x.ok) (hq : allD4 q) (hR : restB g (.slice a q.length cap) s w) (hr : RdG g w a q) (hc : q.length ≤ cap) (hm : cap ≤ maxLen) (hT : TurnsOk w) :
    Calls Tryd.prog 59 #[.pointer (some ⟨g, 0, none⟩), .int .i64 (n : Int), .int .i64 (i : Int), x.val] w fun e w' => e = .returned (rootF n i x q s).1.val ∧ Rest w.heap.size g w w' (.slice a (rootF n i x q s).2.1.length cap) (rootF n i x q s).2.2 := by
  have hk1 := half_lt h2
  have hk0 := half_pos n
  obtain ⟨k, hk⟩ : ∃ k, half n = k := ⟨_, rfl⟩
  obtain ⟨⟨y, q1, s1⟩, ht⟩ : ∃ t, takeF q s = t := ⟨_, rfl⟩
  obtain ⟨⟨z, q2, s2⟩, hz⟩ : ∃ t, rootF (n - half n) (i - half n) x q1 s1 = t := ⟨_, rfl⟩
  obtain ⟨v, hv⟩ : ∃ v, pairS y z = v := ⟨_, rfl⟩
  have HE : Hid (rootF n i x q s = (v, q2, s2)) := by show _ = _; rw [rootF_right (by omega) hi, ht, ← hv]; show (pairS y (rootF (n - half n) (i - half n) x q1 s1).1, (rootF (n - half n) (i - half n) x q1 s1).2) = _; rw [hz]
  have hto := takeF_ok hq s
  rw [ht] at hto
  obtain ⟨hyo, hq1⟩ := hto
  have hyo : y.ok := hyo
  have hq1 : allD4 q1 := hq1
  have hzo : z.ok := by
    have := rootF_ok (n - half n) (i - half n) x q1 s1 hx hq1
    rw [hz] at this
    exact this
  rw [hk] at hk0 hk1 hi H hz
  obtain ⟨N, hN⟩ : ∃ N, q.length = N := ⟨_, rfl⟩
  rw [hN] at hR hc
  have HT := Lib.hid ht
  have HZ := Lib.hid hz
  have HV := Lib.hid hv
  have HK := Lib.hid hk
  have HN := Lib.hid hN
  clear ht hz hv hk hN
  have hn1 : ((n : Int) == 1) = false := by simp; omega
  have hdi : decide ((i : Int) < (k : Int)) = false := by simp; omega
  obtain ⟨w0, hw0⟩ : ∃ w0, (w.alloc (.cells #[.int .u32 x.d0, .int .u32 x.d1, .int .u32 x.d2, .int .u32 x.d3] 24)).alloc (.cells #[.int .u32 0, .int .u32 0, .int .u32 0, .int .u32 0] 24) = w0 := ⟨_, rfl⟩
  obtain ⟨hL, hS, hB, hsz⟩ := start44 x w w0 hw0
  have hg := hR.lt
  have hRest0 := Rest.ofBelow hB (hR.on hB hg)
  have hr0 := hr.on hB
  have hT0 := hT.below hB
  clear hr hT hR hB
  go_enter Tryd.func59, Tryd.ntmps59
  simp only [D4.val]
  go_wp2_with fail
  clear hw0
  refine (chalf_any n w0 h2 hle).mono ?_
  rintro e w0 ⟨rfl, rfl⟩
  rw [HK.out]
  go_wp2_with fail
  refine (rtk_any q q1 y g cap a s s1 N w0 HT.out HN.out.symm hRest0.here hr0 hc hm).mono ?_
  rintro e w1 ⟨rfl, hA1, hr1, hc1⟩
  have hT1 := hT0.onR hA1 (Nat.le_refl _) hRest0.here
  have hL1 := hL.onR hA1 hL.lt (by omega)
  have hS1 := hS.onR hA1 hS.lt (by omega)
  have hRest1 := hRest0.trans hA1 hRest0.size
  have hs1 := Nat.le_trans hRest0.size hA1.size
  have hs01 : w.heap.size + 1 + 1 ≤ w1.heap.size := by have := hA1.size; omega
  clear hr0 hT0 hL hS hRest0 hA1 hsz hs1
  obtain ⟨w2, hw2⟩ : ∃ w2, w1.alloc (.cells #[.int .u32 y.d0, .int .u32 y.d1, .int .u32 y.d2, .int .u32 y.d3] 24) = w2 := ⟨_, rfl⟩
  have hY2 : Arr .u32 24 w1.heap.size y.toL w2 := by rw [← hw2]; exact heap_alloc_new w1 _
  have hAl : Below w1.heap.size w1 w2 := by rw [← hw2]; exact (Below.refl _ _).alloc (Nat.le_refl _) _
  have hL2 := hL1.on hAl
  have hS2 := hS1.on hAl
  have hT2 := hT1.below hAl
  have hr2 := hr1.on hAl
  have hRest2 := hRest1.below hAl (by omega) (by omega)
  have hs12 := hAl.size
  have hlt2 := hY2.lt
  clear hL1 hS1 hT1 hr1 hRest1 hAl
  obtain ⟨l0, l1, l2, l3⟩ := Arr.c4 hL2
  obtain ⟨y0, y1, y2, y3⟩ := Arr.c4 hY2
  have hwn : IntKind.i64.wrap ((n : Int) - (k : Int)) = ((n - k : Nat) : Int) := by rw [IntWalk.i64_in _ (by omega)]; omega
  have hwi : IntKind.i64.wrap ((i : Int) - (k : Int)) = ((i - k : Nat) : Int) := by rw [IntWalk.i64_in _ (by omega)]; omega
  go_wp2_with fail
  have hRest3 : Rest w.heap.size g w w2.drew (.slice a q1.length cap) s1 := hRest2.below (Below.refl _ _).drew (by omega) hRest2.here.lt
  have hrB : restB g (.slice a q1.length cap) s1 w2.drew := hRest2.here
  have hrd : RdG g w2.drew a q1 := hr2
  have hTd : TurnsOk w2.drew := hT2
  have hYd : Arr .u32 24 w1.heap.size y.toL w2.drew := hY2
  have hSd : Arr .u32 24 (w.heap.size + 1) [0, 0, 0, 0] w2.drew := hS2
  have hsd : w.heap.size ≤ w2.drew.heap.size := by show _ ≤ w2.heap.size; omega
  have hL4 := Arr.c4 (show Arr .u32 24 w.heap.size x.toL w2.drew from hL2)
  have hY4 := hYd.c4
  have hS0 : w2.drew.cell? ⟨w.heap.size, 0, none⟩ = some (.int .u32 x.d0) ∧ w2.drew.cell? ⟨w.heap.size, 1, none⟩ = some (.int .u32 x.d1) ∧ w2.drew.cell? ⟨w.heap.size, 2, none⟩ = some (.int .u32 x.d2) ∧ w2.drew.cell? ⟨w.heap.size, 3, none⟩ = some (.int .u32 x.d3) ∧ w2.drew.cell? ⟨w1.heap.size, 0, none⟩ = some (.int .u32 y.d0) ∧ w2.drew.cell? ⟨w1.heap.size, 1, none⟩ = some (.int .u32 y.d1) ∧ w2.drew.cell? ⟨w1.heap.size, 2, none⟩ = some (.int .u32 y.d2) ∧ w2.drew.cell? ⟨w1.heap.size, 3, none⟩ = some (.int .u32 y.d3) := ⟨hL4.1, hL4.2.1, hL4.2.2.1, hL4.2.2.2, hY4.1, hY4.2.1, hY4.2.2.1, hY4.2.2.2⟩
  have HS0 := Lib.hid hS0
  have hxg : w.heap.size ≠ g := by omega
  have hyg : w1.heap.size ≠ g := by omega
  have hxc : w.heap.size ≠ w.heap.size + 1 := by omega
  have hyc : w1.heap.size ≠ w.heap.size + 1 := by omega
  clear hRest2 hr2 hT2 hS2 hS0 hL4 hY4 hL2 hY2 l0 l1 l2 l3 y0 y1 y2 y3 hw2
  go_region_held3 (fun w' => w'.cell? ⟨w.heap.size, 0, none⟩ = some (.int .u32 x.d0) ∧ w'.cell? ⟨w.heap.size, 1, none⟩ = some (.int .u32 x.d1) ∧ w'.cell? ⟨w.heap.size, 2, none⟩ = some (.int .u32 x.d2) ∧ w'.cell? ⟨w.heap.size, 3, none⟩ = some (.int .u32 x.d3) ∧ w'.cell? ⟨w1.heap.size, 0, none⟩ = some (.int .u32 y.d0) ∧ w'.cell? ⟨w1.heap.size, 1, none⟩ = some (.int .u32 y.d1) ∧ w'.cell? ⟨w1.heap.size, 2, none⟩ = some (.int .u32 y.d2) ∧ w'.cell? ⟨w1.heap.size, 3, none⟩ = some (.int .u32 y.d3))
    (first | ((with_reducible refine keep2s hxc hyc ?_); assumption) | ((with_reducible refine keep2b hA4 ?_); assumption) | ((with_reducible refine keep2r hA3 hxg hyg ?_); assumption) | (with_reducible exact HS0.out))
    (first
      | (go_at_call 59; (with_reducible refine (rr_val (n - k) H (i - k) x z q1 q2 s1 s2 g cap a _ _ _ (by first | rfl | omega) (by first | rfl | omega) (by omega) hx hq1 hrB hrd hc1 hm hTd HZ.out).mono ?_); rintro e w3 ⟨rfl, hA3⟩; have hY3 := hYd.onR hA3 hYd.lt (by omega); have hS3 := hSd.onR hA3 hSd.lt (by omega); have hRest4 := hRest3.trans hA3 hsd; have hT3 := hTd.onR hA3 (Nat.le_refl _) hrB; have hs3 := hA3.size; obtain ⟨t0, t1, t2, t3⟩ := Arr.c4 hY3)
      | (go_at_call 48; (with_reducible refine (cpair_val y z v _ hyo hzo hT3 HV.out).mono ?_); rintro e w4 ⟨rfl, hA4⟩; have hS4 := hS3.on hA4; have hRest5 := hRest4.below hA4 (Nat.le_trans hsd hs3) hRest4.here.lt; obtain ⟨k0, k1, k2, k3⟩ := Arr.c4 (d := zeroD) hS4; obtain ⟨f0, f1, f2, f3⟩ := hS4.f4))
  all_goals
    have hRf := put4 (d := v) hS4 rfl
    have hBf : Rest w.heap.size g w ((((w4.setCell ⟨w.heap.size + 1, 0, none⟩ (.int .u32 v.d0)).setCell ⟨w.heap.size + 1, 1, none⟩ (.int .u32 v.d1)).setCell ⟨w.heap.size + 1, 2, none⟩ (.int .u32 v.d2)).setCell ⟨w.heap.size + 1, 3, none⟩ (.int .u32 v.d3)) (.slice a q2.length cap) s2 := hRest5.put4 (by omega) (by omega) v
    go_wp2_with fail
    generalize ((((w4.setCell ⟨w.heap.size + 1, 0, none⟩ (.int .u32 v.d0)).setCell ⟨w.heap.size + 1, 1, none⟩ (.int .u32 v.d1)).setCell ⟨w.heap.size + 1, 2, none⟩ (.int .u32 v.d2)).setCell ⟨w.heap.size + 1, 3, none⟩ (.int .u32 v.d3)) = wf at *
    obtain ⟨r0, r1, r2, r3⟩ := hRf.c4
    refine bodyPost_ret (v := v.val) (by simp [results, Tryd.results59, go_sem, D4.val, r0, r1, r2, r3]) rfl ⟨by rw [HE.out]; rfl, by rw [HE.out]; exact hBf⟩
theorem rr_all : ∀ (n : Nat), 1 ≤ n → n ≤ 1000000 → RRC n := by
  intro n
  induction n using Nat.strongRecOn with
  | _ n ih =>
    intro h1 hle
    by_cases q : n = 1
    · subst q; exact rr_one
    · have h2 : 2 ≤ n := by omega
      have hl := half_lt h2
      have hp := half_pos n
      intro i x l s g cap a w hi hx hq hR hr hc hm hT
      by_cases k : i < half n
      · exact rr_left n h2 hle (ih _ hl hp (by omega)) i k x l s g cap a w hi hx hq hR hr hc hm hT
      · exact rr_right n h2 hle (ih _ (by omega) (by omega) (by omega)) i k x l s g cap a w hi hx hq hR hr hc hm hT
end

section
/-! The code's Check (written by gen_check.py). -/
open Go.RowKit Go.Lib

theorem upR_len : ∀ (p : List D4) (a n i : Nat) (x : D4), n ≤ 2 ^ a → (upR pairS n i x p).2 = true → p.length ≤ a := by
  intro p
  induction p with
  | nil => intro a n i x _ _; exact Nat.zero_le _
  | cons y r ih =>
    intro a n i x hn h
    have h1 : ¬ n ≤ 1 := by
      intro e
      simp [upR, e] at h
    cases a with
    | zero => simp at hn; omega
    | succ a =>
      obtain ⟨h2, h3⟩ := half_bound (show 2 ≤ n by omega) hn
      rw [upR, if_neg h1] at h
      by_cases k : i < half n
      · rw [if_pos k] at h
        have := ih a (half n) i x h2 h
        show r.length + 1 ≤ a + 1; omega
      · rw [if_neg k] at h
        have := ih a (n - half n) (i - half n) x h3 h
        show r.length + 1 ≤ a + 1; omega
theorem check_same (root x : D4) (n i : Nat) (p : List D4) (hn : n ≤ 1000) :
    (sameD (rootF n i x p false).1 root && (((((rootF n i x p false).2.1.length : Nat) : Int) == 0) && !(rootF n i x p false).2.2)) = (if 20 < p.length then false else (upD n i x p).2 && sameD (upD n i x p).1 root) := by
  obtain ⟨g1, g2⟩ := rootR_up pairS zeroD n i x p.reverse false
  have hl : (upR pairS n i x p.reverse).2 = true → p.length ≤ 10 := fun h => by
    have := upR_len p.reverse 10 n i x (by omega) h
    rwa [List.length_reverse] at this
  unfold upD up rootF
  cases hb : (upR pairS n i x p.reverse).2 with
  | true =>
    rw [g1 hb, if_neg (by have := hl hb; omega)]
    simp
  | false =>
    have : (((((rootR pairS zeroD n i x p.reverse false).2.1.reverse.length : Nat) : Int) == 0) && !(rootR pairS zeroD n i x p.reverse false).2.2) = false := by
      rcases g2 hb with q | q
      · have : (rootR pairS zeroD n i x p.reverse false).2.1.length ≠ 0 := fun e => q (List.length_eq_zero_iff.mp e)
        have e2 : ((((rootR pairS zeroD n i x p.reverse false).2.1.reverse.length : Nat) : Int) == 0) = false := by
          rw [List.length_reverse]; simp; exact q
        rw [e2]; rfl
      · rw [q]; simp
    simp only [this, Bool.and_false, Bool.false_and, ite_self]
theorem below_rest {B B' g : Nat} {w w1 w2 : World} {v : Value} {s : Bool} (h : Below B w w1) (k : Rest B' g w1 w2 v s) (_hB : w.heap.size ≤ w1.heap.size) (hg : B ≤ g) (hBB : B ≤ B' := by omega) : Below B w w2 :=
  ⟨k.os.trans h.os, k.tape.trans h.tape, k.output.trans h.output, Nat.le_trans h.size k.size, fun i hi => (k.block i (by omega) (by omega)).trans (h.block i hi)⟩
theorem ccheck_no (root leaf : D4) (n i : Int) (a : Option Addr) (L cap : Nat) (w : World) (h : 1000 < n ∨ i < 0 ∨ n ≤ i) :
    Calls Tryd.prog 37 #[root.val, .int .i64 n, .int .i64 i, leaf.val, .slice a L cap] w fun e w' => e = .returned (.bool false) ∧ Below w.heap.size w w' := by
  obtain ⟨w0, hw0⟩ : ∃ w0, (w.alloc (.cells #[.int .u32 root.d0, .int .u32 root.d1, .int .u32 root.d2, .int .u32 root.d3] 24)).alloc (.cells #[.int .u32 leaf.d0, .int .u32 leaf.d1, .int .u32 leaf.d2, .int .u32 leaf.d3] 24) = w0 := ⟨_, rfl⟩
  obtain ⟨_, _, hB⟩ := boxes2 root leaf w w0 hw0
  obtain ⟨g1, hg1⟩ : ∃ g, decide (1000 < n) = g := ⟨_, rfl⟩
  obtain ⟨g2, hg2⟩ : ∃ g, decide (i < 0) = g := ⟨_, rfl⟩
  obtain ⟨g3, hg3⟩ : ∃ g, decide (n ≤ i) = g := ⟨_, rfl⟩
  have hall : g1 = true ∨ g2 = true ∨ g3 = true := by
    subst hg1; subst hg2; subst hg3
    simp
    omega
  clear h
  go_enter Tryd.func37, Tryd.ntmps37
  simp only [D4.val]
  cases g1 <;> cases g2 <;> cases g3 <;> simp at hall <;> (go_wp2_with fail; go_ret; exact ⟨rfl, hB⟩)
set_option maxHeartbeats 4000000 in
set_option maxRecDepth 100000 in
theorem ccheck_yes (root x : D4) (n i : Int) (q : List D4) (a : Option Addr) (cap : Nat) (w : World) (h1 : n ≤ 1000) (h2 : 0 ≤ i) (h3 : i < n) (hxo : x.ok) (hq : allD4 q) (hr : RdS w a q) (hc : q.length ≤ cap) (hm : cap ≤ maxLen) (hT : TurnsOk w) :
    Calls Tryd.prog 37 #[root.val, .int .i64 n, .int .i64 i, x.val, .slice a q.length cap] w fun e w' => e = .returned (.bool (sameD (rootF n.toNat i.toNat x q false).1 root && (((((rootF n.toNat i.toNat x q false).2.1.length : Nat) : Int) == 0) && !(rootF n.toNat i.toNat x q false).2.2))) ∧ Below w.heap.size w w' := by
  obtain ⟨⟨z, q2, s2⟩, hz⟩ : ∃ z, rootF n.toNat i.toNat x q false = z := ⟨_, rfl⟩
  rw [hz]
  have HZ := Lib.hid hz
  clear hz
  show Calls _ _ _ w fun e w' => e = .returned (.bool (sameD z root && (((q2.length : Int) == 0) && !s2))) ∧ _
  obtain ⟨bl, hbl⟩ : ∃ bl, sameD z root = bl := ⟨_, rfl⟩
  rw [hbl]
  obtain ⟨w0, hw0⟩ : ∃ w0, (w.alloc (.cells #[.int .u32 root.d0, .int .u32 root.d1, .int .u32 root.d2, .int .u32 root.d3] 24)).alloc (.cells #[.int .u32 x.d0, .int .u32 x.d1, .int .u32 x.d2, .int .u32 x.d3] 24) = w0 := ⟨_, rfl⟩
  obtain ⟨hA, hL, hB⟩ := boxes2 root x w w0 hw0
  have hsz : w0.heap.size = w.heap.size + 1 + 1 := by rw [← hw0]; simp
  have hg1 : decide (1000 < n) = false := by simp; omega
  have hg2 : decide (i < 0) = false := by simp; omega
  have hg3 : decide (n ≤ i) = false := by simp; omega
  have hu : (n.toNat : Int) = n := by omega
  have hv : (i.toNat : Int) = i := by omega
  obtain ⟨N, hN⟩ : ∃ N, n.toNat = N := ⟨_, rfl⟩
  obtain ⟨I, hI⟩ : ∃ I, i.toNat = I := ⟨_, rfl⟩
  rw [hN] at HZ hu
  rw [hI] at HZ hv
  obtain ⟨L, hL0⟩ : ∃ L, q.length = L := ⟨_, rfl⟩
  have HL := Lib.hid hL0
  obtain ⟨w1, hw1⟩ : ∃ w1, w0.alloc (.cells #[.slice a L cap, .bool false] 83) = w1 := ⟨_, rfl⟩
  have hRB : restB w0.heap.size (.slice a q.length cap) false w1 := by rw [← hw1, hL0]; exact heap_alloc_new w0 _
  have hAl : Below w0.heap.size w0 w1 := by rw [← hw1]; exact (Below.refl _ _).alloc (Nat.le_refl _) _
  have hA1 := hA.on hAl
  have hL1 := hL.on hAl
  have hB1 := hB.trans (hAl.mono hB.size)
  have hT1 := (hT.below hB).below hAl
  have hr1 : RdG w0.heap.size w1 a q := fun hne => by
    obtain ⟨b, o, e, hrd⟩ := hr hne
    have := hrd.1
    exact ⟨b, o, e, by omega, (hrd.on hB).on hAl⟩
  rw [hL0] at hc ⊢
  have hc' : q.length ≤ cap := by rw [hL0]; exact hc
  have hs1 : w0.heap.size < w1.heap.size := by rw [← hw1]; simp
  rw [hsz] at hRB hr1 hs1
  have HU := Lib.hid hu
  have HV := Lib.hid hv
  have hN1 : 1 ≤ N := by omega
  have hN2 : N ≤ 1000000 := by omega
  have hI2 : I ≤ 1000000 := by omega
  clear hL0 hu hv hN hI h1 h2 h3 hr hT hA hL hB
  subst hw1
  have HRB := Lib.hid hRB
  have HS1 := Lib.hid hs1
  have HA := Lib.hid hA1
  have HLL := Lib.hid hL1
  clear hRB hs1 hA1 hL1
  have hE := eqD_run z root
  rw [hbl] at hE
  have HH := rr_all N hN1 hN2
  clear hbl
  go_enter Tryd.func37, Tryd.ntmps37
  simp only [D4.val]
  go_wp2_with fail
  generalize w0.alloc (.cells #[.slice a L cap, .bool false] 83) = w1 at *
  have hRB := HRB.out
  have hA1 := HA.out
  have hL1 := HLL.out
  clear HRB HS1 HA HLL
  have hRd : restB (w.heap.size + 1 + 1) (.slice a q.length cap) false w1.drew := hRB
  have hrd : RdG (w.heap.size + 1 + 1) w1.drew a q := hr1
  have hTd : TurnsOk w1.drew := hT1
  have hBd : Below w.heap.size w w1.drew := hB1.drew
  have hL4 := Arr.c4 (show Arr .u32 24 (w.heap.size + 1) x.toL w1.drew from hL1)
  have hA4 := Arr.c4 (show Arr .u32 24 w.heap.size root.toL w1.drew from hA1)
  have hS0 : w1.drew.cell? ⟨w.heap.size + 1, 0, none⟩ = some (.int .u32 x.d0) ∧ w1.drew.cell? ⟨w.heap.size + 1, 1, none⟩ = some (.int .u32 x.d1) ∧ w1.drew.cell? ⟨w.heap.size + 1, 2, none⟩ = some (.int .u32 x.d2) ∧ w1.drew.cell? ⟨w.heap.size + 1, 3, none⟩ = some (.int .u32 x.d3) ∧ w1.drew.cell? ⟨w.heap.size, 0, none⟩ = some (.int .u32 root.d0) ∧ w1.drew.cell? ⟨w.heap.size, 1, none⟩ = some (.int .u32 root.d1) ∧ w1.drew.cell? ⟨w.heap.size, 2, none⟩ = some (.int .u32 root.d2) ∧ w1.drew.cell? ⟨w.heap.size, 3, none⟩ = some (.int .u32 root.d3) := ⟨hL4.1, hL4.2.1, hL4.2.2.1, hL4.2.2.2, hA4.1, hA4.2.1, hA4.2.2.1, hA4.2.2.2⟩
  have HS0 := Lib.hid hS0
  have hxg : w.heap.size + 1 ≠ w.heap.size + 1 + 1 := by omega
  have hyg : w.heap.size ≠ w.heap.size + 1 + 1 := by omega
  have hbg : w.heap.size ≤ w.heap.size + 1 + 1 := by omega
  clear hS0 hL4 hA4 hRB hr1 hT1 hB1 hA1 hL1 hAl hw0
  cases bl
  all_goals
    go_region_held3 (fun w' => w'.cell? ⟨w.heap.size + 1, 0, none⟩ = some (.int .u32 x.d0) ∧ w'.cell? ⟨w.heap.size + 1, 1, none⟩ = some (.int .u32 x.d1) ∧ w'.cell? ⟨w.heap.size + 1, 2, none⟩ = some (.int .u32 x.d2) ∧ w'.cell? ⟨w.heap.size + 1, 3, none⟩ = some (.int .u32 x.d3) ∧ w'.cell? ⟨w.heap.size, 0, none⟩ = some (.int .u32 root.d0) ∧ w'.cell? ⟨w.heap.size, 1, none⟩ = some (.int .u32 root.d1) ∧ w'.cell? ⟨w.heap.size, 2, none⟩ = some (.int .u32 root.d2) ∧ w'.cell? ⟨w.heap.size, 3, none⟩ = some (.int .u32 root.d3))
      (first | ((with_reducible refine keep2r hA3 hxg hyg ?_); assumption) | (with_reducible exact HS0.out))
      (first
        | (go_at_call 59; (with_reducible refine (rr_val N HH I x z q q2 false s2 _ cap a n i _ HU.out HV.out hI2 hxo hq hRd hrd hc' hm hTd HZ.out).mono ?_); rintro e w3 ⟨rfl, hA3⟩; have hB3 := below_rest hBd hA3 hBd.size hbg hBd.size)
        | (go_at_call 60; (with_reducible refine (usedUp_any _ q2.length cap a s2 _ hA3.here).mono ?_); rintro e w4 ⟨rfl, rfl⟩))
  all_goals
    go_wp2
    go_ret
    exact ⟨rfl, hB3⟩
theorem ccheck_any (root x : D4) (n i : Int) (q : List D4) (a : Option Addr) (cap : Nat) (w : World) (hxo : x.ok) (hq : allD4 q) (hr : RdS w a q) (hc : q.length ≤ cap) (hm : cap ≤ maxLen) (hT : TurnsOk w) :
    Calls Tryd.prog 37 #[root.val, .int .i64 n, .int .i64 i, x.val, .slice a q.length cap] w fun e w' => e = .returned (.bool (checkD root n i x q)) ∧ Below w.heap.size w w' := by
  by_cases h : 1000 < n ∨ i < 0 ∨ n ≤ i
  · refine (ccheck_no root x n i a q.length cap w h).mono ?_
    rintro e w' ⟨rfl, hB⟩
    refine ⟨?_, hB⟩
    unfold checkD
    rw [if_pos (by omega)]
  · refine (ccheck_yes root x n i q a cap w (by omega) (by omega) (by omega) hxo hq hr hc hm hT).mono ?_
    rintro e w' ⟨rfl, hB⟩
    refine ⟨?_, hB⟩
    rw [check_same root x n.toNat i.toNat q (by omega)]
    unfold checkD
    congr 2
    by_cases k : 20 < q.length
    · rw [if_pos k, if_pos (by omega)]
    · rw [if_neg k, if_neg (by omega)]
end

end Go.Proofs.YtdphhpmkcalahaaDoor
