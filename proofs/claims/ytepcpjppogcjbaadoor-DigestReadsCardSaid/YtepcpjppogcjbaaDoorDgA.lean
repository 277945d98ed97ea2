/-
  Rows of integers in a block: what they hold, and what a store makes of them. Plain mathematics of a round, step by step, over such rows.
-/
import Derived.Test.YtepcpjppogcjbaaDoorDgP
import Derived.Test.YtepcpjppogcjbaaDoorRHexA
namespace Go.Proofs.YtepcpjppogcjbaaDoor
open Go.RowKit

/-- A block holds these integers, and no more. -/
def Arr (κ : IntKind) (t : TypeId) (b : Nat) (L : List Int) (w : World) : Prop := w.heap[b]? = some (.cells ((L.map (Value.int κ)).toArray) t (0, 0))
theorem Arr.cell {κ : IntKind} {t : TypeId} {b : Nat} {L : List Int} {w : World} (h : Arr κ t b L w) {j : Nat} (hj : j < L.length) : w.cell? ⟨b, j, none⟩ = some (.int κ (L.getD j 0)) := by
  rw [cell_of_row w b j _ t (0, 0) h]
  simp [List.getElem?_eq_getElem hj, List.getD]
theorem Arr.fz {κ : IntKind} {t : TypeId} {b : Nat} {L : List Int} {w : World} (h : Arr κ t b L w) (j : Nat) : w.frozen? ⟨b, j, none⟩ = false := frozen_of_row w b j _ t h
theorem Arr.set {κ : IntKind} {t : TypeId} {b : Nat} {L : List Int} {w : World} (h : Arr κ t b L w) (j : Nat) (v : Int) : Arr κ t b (L.set j v) (w.setCell ⟨b, j, none⟩ (.int κ v)) := by
  unfold Arr
  rw [heap_setCell_same w b j _ t _ h]
  congr 2
  apply Array.ext'
  simp [List.map_set]
theorem Arr.far {κ : IntKind} {t : TypeId} {b : Nat} {L : List Int} {w : World} (h : Arr κ t b L w) {a : Addr} (hne : b ≠ a.block) (v : Value) : Arr κ t b L (w.setCell a v) := by
  unfold Arr
  rw [heap_setCell_other w a b v hne]
  exact h
theorem Arr.lt {κ : IntKind} {t : TypeId} {b : Nat} {L : List Int} {w : World} (h : Arr κ t b L w) : b < w.heap.size := by
  rcases Nat.lt_or_ge b w.heap.size with q | q
  · exact q
  · unfold Arr at h
    rw [Array.getElem?_eq_none q] at h
    cases h
theorem Arr.al {κ : IntKind} {t : TypeId} {b : Nat} {L : List Int} {w : World} (h : Arr κ t b L w) (o : Obj) : Arr κ t b L (w.alloc o) := by
  have hl := h.lt
  unfold Arr
  rw [Below.heap_alloc w o b hl]
  exact h

/-- The places turned, pair by pair. -/
def kk (i : Nat) : Int := [7, 9, 13, 18].getD i 0
def stepP (k : Int) (i : Nat) (L : List Int) : List Int := (L.set i (aw (L.getD i 0) (L.getD (i + 4) 0))).set (i + 4) (rotI (xw (L.getD (i + 4) 0) (aw (L.getD i 0) (L.getD (i + 4) 0))) k)
def foldP : Nat → List Int → List Int
  | 0, L => L
  | n + 1, L => stepP (kk n) n (foldP n L)
/-- The words moved, one after the other. -/
def movP (L : List Int) : Nat → List Int
  | 0 => [0, 0, 0, 0, 0, 0, 0, 0]
  | n + 1 => (movP L n).set n (L.getD ((n + 3) % 8) 0)
def allW (L : List Int) : Prop := ∀ x ∈ L, isW x
theorem allW.get {L : List Int} (h : allW L) (j : Nat) : isW (L.getD j 0) := by
  rcases Nat.lt_or_ge j L.length with q | q
  · rw [List.getD_eq_getElem?_getD, List.getElem?_eq_getElem q]
    exact h _ (List.getElem_mem q)
  · rw [List.getD_eq_getElem?_getD, List.getElem?_eq_none q]
    exact ⟨by decide, by decide⟩
theorem allW.put {L : List Int} (h : allW L) (j : Nat) {v : Int} (hv : isW v) : allW (L.set j v) := by
  intro x hx
  rcases List.mem_or_eq_of_mem_set hx with q | q
  · exact h x q
  · rw [q]; exact hv
theorem stepP_len (k : Int) (i : Nat) (L : List Int) : (stepP k i L).length = L.length := by simp [stepP]
theorem foldP_len (n : Nat) (L : List Int) : (foldP n L).length = L.length := by
  induction n with
  | zero => rfl
  | succ n ih => rw [foldP, stepP_len, ih]
theorem stepP_ok {L : List Int} (h : allW L) (k : Int) (i : Nat) : allW (stepP k i L) := by
  unfold stepP
  exact (h.put i (aw_bd _ _)).put (i + 4) (rot_bd (xw_bd (h.get _) (aw_bd _ _)) k)
theorem foldP_ok {L : List Int} (h : allW L) (n : Nat) : allW (foldP n L) := by
  induction n with
  | zero => exact h
  | succ n ih => exact stepP_ok ih _ _
theorem movP_len (L : List Int) (n : Nat) : (movP L n).length = 8 := by
  induction n with
  | zero => rfl
  | succ n ih => rw [movP, List.length_set, ih]
def S8.toL (s : S8) : List Int := [s.x0, s.x1, s.x2, s.x3, s.x4, s.x5, s.x6, s.x7]
theorem S8.toL_len (s : S8) : s.toL.length = 8 := rfl
theorem S8.toL_ok {s : S8} (h : s.ok) : allW s.toL := by
  obtain ⟨h0, h1, h2, h3, h4, h5, h6, h7⟩ := h
  intro x hx
  simp only [S8.toL, List.mem_cons, List.not_mem_nil, or_false] at hx
  rcases hx with rfl | rfl | rfl | rfl | rfl | rfl | rfl | rfl <;> assumption
/-- A round, over rows. -/
theorem round_list (r : Nat) (s : S8) : movP (foldP 4 (s.toL.set 0 (aw s.x0 (rc r)))) 8 = (rnd r s).toL := by
  rfl
end Go.Proofs.YtepcpjppogcjbaaDoor
