/-
  Lists of digests that a call made; the document's proof of a place.
-/
import Derived.Test.YtnimbclnhgbdcaaDoorMkB
import Derived.Deep.AppendLies
namespace Go.Proofs.YtnimbclnhgbdcaaDoor
open Go.RowKit

theorem info_dg : (Tryd.prog.info? 26).map (fun i => (i.zero, i.size, i.bytes)) = some (some (.agg #[.int .u32 0, .int .u32 0, .int .u32 0, .int .u32 0]), 4, 16) := by kernel_rfl
/-- The cells of digests. -/
def dCells : List D4 → List Value
  | [] => []
  | d :: r => .int .u32 d.d0 :: .int .u32 d.d1 :: .int .u32 d.d2 :: .int .u32 d.d3 :: dCells r
theorem dCells_len : ∀ l : List D4, (dCells l).length = l.length * 4
  | [] => rfl
  | _ :: r => by show (dCells r).length + 1 + 1 + 1 + 1 = (r.length + 1) * 4; rw [dCells_len r]; omega
theorem dCells_append : ∀ l m : List D4, dCells (l ++ m) = dCells l ++ dCells m
  | [], _ => rfl
  | d :: r, m => by show _ :: _ :: _ :: _ :: dCells (r ++ m) = _; rw [dCells_append r m]; rfl
theorem dCells_at : ∀ (l : List D4) (i : Nat), i < l.length → (dCells l)[i * 4]? = some (.int .u32 (l.getD i zeroD).d0) ∧ (dCells l)[i * 4 + 1]? = some (.int .u32 (l.getD i zeroD).d1) ∧ (dCells l)[i * 4 + 2]? = some (.int .u32 (l.getD i zeroD).d2) ∧ (dCells l)[i * 4 + 3]? = some (.int .u32 (l.getD i zeroD).d3)
  | [], i, h => absurd h (by simp)
  | d :: r, 0, _ => ⟨rfl, rfl, rfl, rfl⟩
  | d :: r, i + 1, h => by
    have := dCells_at r i (by simpa using h)
    rw [show (i + 1) * 4 = i * 4 + 4 by omega]
    exact this
/-- A row of digests that the call owns. -/
def OwnsD (B : Nat) (v : Value) (l : List D4) (w : World) : Prop := w.ownsRow B 26 4 v l.length (dCells l)
theorem OwnsD.nil (B : Nat) (w : World) : OwnsD B (.slice none 0 0) [] w := World.ownsRow_nil w B _ _
theorem OwnsD.on {B : Nat} {v : Value} {l : List D4} {w w' : World} (h : OwnsD B v l w) (hB : Below w.heap.size w w') : OwnsD B v l w' := by
  refine ⟨h.1, ?_⟩
  rcases h.2 with q | ⟨g, cap, cur, hv, hb, hg, q⟩
  · exact .inl q
  · refine .inr ⟨g, cap, cur, hv, hb, ?_, q⟩
    rw [hB.block g (World.ownsRow.lt h g (by rw [hv]; rfl)).2]
    exact hg
theorem OwnsD.snoc {B : Nat} {v : Value} {l : List D4} {d : D4} {w : World} (h : w.ownsRow B 26 4 v (l.length + 1) (dCells l ++ [.int .u32 d.d0, .int .u32 d.d1, .int .u32 d.d2, .int .u32 d.d3])) : OwnsD B v (l ++ [d]) w := by
  unfold OwnsD
  rw [dCells_append, List.length_append]
  exact h
/-- What such a list looks like to one that reads it. -/
def RdS (w : World) (p : Option Addr) (l : List D4) : Prop := l ≠ [] → ∃ b o, p = some ⟨b, o, none⟩ ∧ RdL w b o l
theorem OwnsD.form {B : Nat} {v : Value} {l : List D4} {w : World} (h : OwnsD B v l w) : ∃ p cap, v = .slice p l.length cap ∧ l.length ≤ cap ∧ cap ≤ maxLen ∧ RdS w p l := by
  have h0 := h
  rcases h.2 with ⟨hv, hn⟩ | ⟨g, cap, cur, hv, hb, hg, hc, hm, _, ht⟩
  · exact ⟨none, 0, by rw [hv, hn], by omega, by unfold maxLen; omega, fun q => absurd (List.length_eq_zero_iff.mp hn) q⟩
  · refine ⟨some ⟨g, 0, none⟩, cap, hv, hc, hm, fun _ => ⟨g, 0, rfl, (World.ownsRow.lt h g (by rw [hv]; rfl)).2, fun i hi => ?_⟩⟩
    have key : ∀ j x, (dCells l)[j]? = some x → w.cell? ⟨g, j, none⟩ = some x := fun j x hj => by
      rw [cell_of_row w g j cur _ _ hg]
      rw [← ht] at hj
      rw [List.getElem?_take] at hj
      split at hj
      · simpa using hj
      · cases hj
    obtain ⟨a0, a1, a2, a3⟩ := dCells_at l i hi
    simp only [Nat.zero_add]
    exact ⟨key _ _ a0, key _ _ a1, key _ _ a2, key _ _ a3⟩
end Go.Proofs.YtnimbclnhgbdcaaDoor
