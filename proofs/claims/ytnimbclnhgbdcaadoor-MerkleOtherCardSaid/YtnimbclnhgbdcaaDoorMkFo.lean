/-
  The document's Fooled, where another leaf is shown: it answers true (written by gen_fool.py).
-/
import Derived.Test.YtnimbclnhgbdcaaDoorMkW
import Derived.Test.YtnimbclnhgbdcaaDoorMkLB
import Derived.Deep.CutRange
namespace Go.Proofs.YtnimbclnhgbdcaaDoor
open Go.RowKit

theorem keep20 {x z u v f : D4} {X Y H : Nat} {W w' : World} (h : Below W.heap.size W w') (q : W.cell? ⟨X, 0, none⟩ = some (.int .u32 x.d0) ∧ W.cell? ⟨X, 1, none⟩ = some (.int .u32 x.d1) ∧ W.cell? ⟨X, 2, none⟩ = some (.int .u32 x.d2) ∧ W.cell? ⟨X, 3, none⟩ = some (.int .u32 x.d3) ∧ W.cell? ⟨X, 4, none⟩ = some (.int .u32 z.d0) ∧ W.cell? ⟨X, 5, none⟩ = some (.int .u32 z.d1) ∧ W.cell? ⟨X, 6, none⟩ = some (.int .u32 z.d2) ∧ W.cell? ⟨X, 7, none⟩ = some (.int .u32 z.d3) ∧ W.cell? ⟨Y, 0, none⟩ = some (.int .u32 u.d0) ∧ W.cell? ⟨Y, 1, none⟩ = some (.int .u32 u.d1) ∧ W.cell? ⟨Y, 2, none⟩ = some (.int .u32 u.d2) ∧ W.cell? ⟨Y, 3, none⟩ = some (.int .u32 u.d3) ∧ W.cell? ⟨Y, 4, none⟩ = some (.int .u32 v.d0) ∧ W.cell? ⟨Y, 5, none⟩ = some (.int .u32 v.d1) ∧ W.cell? ⟨Y, 6, none⟩ = some (.int .u32 v.d2) ∧ W.cell? ⟨Y, 7, none⟩ = some (.int .u32 v.d3) ∧ W.cell? ⟨H, 0, none⟩ = some (.int .u32 f.d0) ∧ W.cell? ⟨H, 1, none⟩ = some (.int .u32 f.d1) ∧ W.cell? ⟨H, 2, none⟩ = some (.int .u32 f.d2) ∧ W.cell? ⟨H, 3, none⟩ = some (.int .u32 f.d3)) : w'.cell? ⟨X, 0, none⟩ = some (.int .u32 x.d0) ∧ w'.cell? ⟨X, 1, none⟩ = some (.int .u32 x.d1) ∧ w'.cell? ⟨X, 2, none⟩ = some (.int .u32 x.d2) ∧ w'.cell? ⟨X, 3, none⟩ = some (.int .u32 x.d3) ∧ w'.cell? ⟨X, 4, none⟩ = some (.int .u32 z.d0) ∧ w'.cell? ⟨X, 5, none⟩ = some (.int .u32 z.d1) ∧ w'.cell? ⟨X, 6, none⟩ = some (.int .u32 z.d2) ∧ w'.cell? ⟨X, 7, none⟩ = some (.int .u32 z.d3) ∧ w'.cell? ⟨Y, 0, none⟩ = some (.int .u32 u.d0) ∧ w'.cell? ⟨Y, 1, none⟩ = some (.int .u32 u.d1) ∧ w'.cell? ⟨Y, 2, none⟩ = some (.int .u32 u.d2) ∧ w'.cell? ⟨Y, 3, none⟩ = some (.int .u32 u.d3) ∧ w'.cell? ⟨Y, 4, none⟩ = some (.int .u32 v.d0) ∧ w'.cell? ⟨Y, 5, none⟩ = some (.int .u32 v.d1) ∧ w'.cell? ⟨Y, 6, none⟩ = some (.int .u32 v.d2) ∧ w'.cell? ⟨Y, 7, none⟩ = some (.int .u32 v.d3) ∧ w'.cell? ⟨H, 0, none⟩ = some (.int .u32 f.d0) ∧ w'.cell? ⟨H, 1, none⟩ = some (.int .u32 f.d1) ∧ w'.cell? ⟨H, 2, none⟩ = some (.int .u32 f.d2) ∧ w'.cell? ⟨H, 3, none⟩ = some (.int .u32 f.d3) := by
  have hX : X < W.heap.size := World.block_lt_of_cell? W _ q.1
  have hY : Y < W.heap.size := World.block_lt_of_cell? W _ q.2.2.2.2.2.2.2.2.1
  have hH : H < W.heap.size := World.block_lt_of_cell? W _ q.2.2.2.2.2.2.2.2.2.2.2.2.2.2.2.2.1
  have e1 : ∀ j, w'.cell? ⟨X, j, none⟩ = W.cell? ⟨X, j, none⟩ := fun j => World.cell?_of_block (w := W) (h.block X hX)
  have e2 : ∀ j, w'.cell? ⟨Y, j, none⟩ = W.cell? ⟨Y, j, none⟩ := fun j => World.cell?_of_block (w := W) (h.block Y hY)
  have e3 : ∀ j, w'.cell? ⟨H, j, none⟩ = W.cell? ⟨H, j, none⟩ := fun j => World.cell?_of_block (w := W) (h.block H hH)
  simp only [e1, e2, e3]
  exact q
/-- Fooled answers true. -/
def FoolsT (l : List D4) (i : Nat) (f : D4) (p : List D4) : Prop := ∀ (b o cap : Nat) (pp : Option Addr) (cp : Nat) (w : World), RdL w b o l → RdS w pp p → l.length ≤ cap → cap ≤ maxLen → p.length ≤ cp → cp ≤ maxLen →
  Calls Tryd.prog 25 #[.slice (some ⟨b, o, none⟩) l.length cap, .int .i64 (i : Int), .agg #[.int .u32 f.d0, .int .u32 f.d1, .int .u32 f.d2, .int .u32 f.d3], .slice pp p.length cp] w fun e w' => e = .returned (.bool true) ∧ Below w.heap.size w w'
theorem fools_val (l : List D4) (i : Nat) (f : D4) (p : List D4) (H : FoolsT l i f p) (b o cap : Nat) (pp : Option Addr) (cp n m : Nat) (u : Int) (w : World) (hn : n = l.length) (hm : m = p.length) (hu : (i : Int) = u) (hr : RdL w b o l) (hp : RdS w pp p) (h1 : n ≤ cap) (h2 : cap ≤ maxLen) (h3 : m ≤ cp) (h4 : cp ≤ maxLen) :
    Calls Tryd.prog 25 #[.slice (some ⟨b, o, none⟩) n cap, .int .i64 u, .agg #[.int .u32 f.d0, .int .u32 f.d1, .int .u32 f.d2, .int .u32 f.d3], .slice pp m cp] w fun e w' => e = .returned (.bool true) ∧ Below w.heap.size w w' := by
  subst hn; subst hm; subst hu
  exact H b o cap pp cp w hr hp h1 h2 h3 h4
theorem upD_okF (p : List D4) : ∀ (n i : Nat) (x : D4), x.ok → allD4 p → (upD n i x p).1.ok := by
  have go : ∀ (p : List D4) (n i : Nat) (x : D4), x.ok → allD4 p → (upR pairS n i x p).1.ok := by
    intro p
    induction p with
    | nil => intro n i x hx _; exact hx
    | cons y r ih =>
      intro n i x hx hp
      have hy : y.ok := hp y (by simp)
      have hr : allD4 r := fun d hd => hp d (by simp [hd])
      rw [upR]
      split
      · exact hx
      · split
        · exact pairS_ok (ih _ _ _ hx hr) hy
        · exact pairS_ok hy (ih _ _ _ hx hr)
  intro n i x hx hp
  exact go p.reverse n i x hx (fun d hd => hp d (by simpa using hd))
end Go.Proofs.YtnimbclnhgbdcaaDoor
