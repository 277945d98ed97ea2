/-
  The document's Fooled answers true wherever another leaf is shown (written by gen_law6.py).
-/
import Derived.Test.YtnimbclnhgbdcaaDoorMkFL
import Derived.Test.YtnimbclnhgbdcaaDoorMkFR
import Derived.Laws.OwnMore
namespace Go.Proofs.YtnimbclnhgbdcaaDoor
open Go.RowKit

theorem fools_all : ∀ (n : Nat) (l : List D4) (i : Nat) (f x : D4) (p : List D4), l.length = n → n ≤ 1000000 → l[i]? = some x → f ≠ x → allD4 l → f.ok → allD4 p → upD l.length i f p = (rootD l, true) → FoolsT l i f p := by
  intro n
  induction n using Nat.strongRecOn with
  | _ n ih =>
    intro l i f x p hn hle hx hne hlo hfo hpo hup
    have hin := (List.getElem?_eq_some_iff.mp hx).1
    by_cases h1 : l.length ≤ 1
    · exfalso
      have hl1 : l.length = 1 := by omega
      match l, hl1 with
      | [a], _ =>
        have hi0 : i = 0 := by simp at hin; exact hin
        subst hi0
        simp at hx
        subst hx
        rw [upD, up_one pairS f p (by simp), rootD, root_one] at hup
        simp only [Prod.mk.injEq] at hup
        exact hne hup.1
    · have h2 : 2 ≤ l.length := by omega
      have hl := half_lt h2
      have hp := half_pos l.length
      rcases List.eq_nil_or_concat p with rfl | ⟨r, y, rfl⟩
      · exfalso
        rw [upD, up_none pairS f h1] at hup
        simp only [Prod.mk.injEq] at hup
        cases hup.2
      · rw [List.concat_eq_append] at *
        by_cases k : i < half l.length
        · refine fools_left l i f y r h2 (by omega) hin k hlo hfo hpo hup (fun e => ?_)
          have hu : (upD (half l.length) i f r).2 = true := by
            rw [upD, up_left pairS f r y h1 k] at hup
            simp only [Prod.mk.injEq] at hup
            exact hup.2
          refine ih (half l.length) (by omega) (l.take (half l.length)) i f x r (by rw [List.length_take]; omega) (by omega) (by rw [List.getElem?_take, if_pos k]; exact hx) hne (hlo.take _) hfo hpo.left ?_
          rw [show (l.take (half l.length)).length = half l.length by rw [List.length_take]; omega]
          exact Prod.ext e.symm hu
        · refine fools_right l i f y r h2 (by omega) hin k hlo hfo hpo hup (fun e => ?_)
          have hu : (upD (l.length - half l.length) (i - half l.length) f r).2 = true := by
            rw [upD, up_right pairS f r y h1 k] at hup
            simp only [Prod.mk.injEq] at hup
            exact hup.2
          refine ih (l.length - half l.length) (by omega) (l.drop (half l.length)) (i - half l.length) f x r (by rw [List.length_drop]) (by omega) (by rw [List.getElem?_drop, show half l.length + (i - half l.length) = i by omega]; exact hx) hne (hlo.drop _) hfo hpo.left ?_
          rw [show (l.drop (half l.length)).length = l.length - half l.length by rw [List.length_drop]]
          exact Prod.ext e.symm hu
theorem check_up (l : List D4) (i : Nat) (f : D4) (p : List D4) (h : checkD (rootD l) (l.length : Int) (i : Int) f p = true) : upD l.length i f p = (rootD l, true) := by
  unfold checkD at h
  split at h
  · cases h
  · simp only [Int.toNat_natCast, Bool.and_eq_true] at h
    exact Prod.ext ((sameD_iff _ _).mp h.2) h.1
theorem check_longer (l : List D4) (i : Nat) (x : D4) (p q : List D4) (hp : checkD (rootD l) (l.length : Int) (i : Int) x p = true) (hq : q.length ≠ p.length) : checkD (rootD l) (l.length : Int) (i : Int) x q = false := by
  rcases h : checkD (rootD l) (l.length : Int) (i : Int) x q with _ | _
  · rfl
  · have h1 := check_up l i x p hp
    have h2 := check_up l i x q h
    exact absurd (up_len pairS l.length i x x q p (by have := congrArg Prod.snd h2; exact this) (by have := congrArg Prod.snd h1; exact this)) hq
theorem keep12 {f y x : D4} {H R b a : Nat} {W w' : World} (h : Below W.heap.size W w') (q : W.cell? ⟨H, 0, none⟩ = some (.int .u32 f.d0) ∧ W.cell? ⟨H, 1, none⟩ = some (.int .u32 f.d1) ∧ W.cell? ⟨H, 2, none⟩ = some (.int .u32 f.d2) ∧ W.cell? ⟨H, 3, none⟩ = some (.int .u32 f.d3) ∧ W.cell? ⟨R, 0, none⟩ = some (.int .u32 y.d0) ∧ W.cell? ⟨R, 1, none⟩ = some (.int .u32 y.d1) ∧ W.cell? ⟨R, 2, none⟩ = some (.int .u32 y.d2) ∧ W.cell? ⟨R, 3, none⟩ = some (.int .u32 y.d3) ∧ W.cell? ⟨b, a, none⟩ = some (.int .u32 x.d0) ∧ W.cell? ⟨b, a + 1, none⟩ = some (.int .u32 x.d1) ∧ W.cell? ⟨b, a + 2, none⟩ = some (.int .u32 x.d2) ∧ W.cell? ⟨b, a + 3, none⟩ = some (.int .u32 x.d3)) : w'.cell? ⟨H, 0, none⟩ = some (.int .u32 f.d0) ∧ w'.cell? ⟨H, 1, none⟩ = some (.int .u32 f.d1) ∧ w'.cell? ⟨H, 2, none⟩ = some (.int .u32 f.d2) ∧ w'.cell? ⟨H, 3, none⟩ = some (.int .u32 f.d3) ∧ w'.cell? ⟨R, 0, none⟩ = some (.int .u32 y.d0) ∧ w'.cell? ⟨R, 1, none⟩ = some (.int .u32 y.d1) ∧ w'.cell? ⟨R, 2, none⟩ = some (.int .u32 y.d2) ∧ w'.cell? ⟨R, 3, none⟩ = some (.int .u32 y.d3) ∧ w'.cell? ⟨b, a, none⟩ = some (.int .u32 x.d0) ∧ w'.cell? ⟨b, a + 1, none⟩ = some (.int .u32 x.d1) ∧ w'.cell? ⟨b, a + 2, none⟩ = some (.int .u32 x.d2) ∧ w'.cell? ⟨b, a + 3, none⟩ = some (.int .u32 x.d3) := by
  have hH : H < W.heap.size := World.block_lt_of_cell? W _ q.1
  have hR : R < W.heap.size := World.block_lt_of_cell? W _ q.2.2.2.2.1
  have hb : b < W.heap.size := World.block_lt_of_cell? W _ q.2.2.2.2.2.2.2.2.1
  have e1 : ∀ j, w'.cell? ⟨H, j, none⟩ = W.cell? ⟨H, j, none⟩ := fun j => World.cell?_of_block (w := W) (h.block H hH)
  have e2 : ∀ j, w'.cell? ⟨R, j, none⟩ = W.cell? ⟨R, j, none⟩ := fun j => World.cell?_of_block (w := W) (h.block R hR)
  have e3 : ∀ j, w'.cell? ⟨b, j, none⟩ = W.cell? ⟨b, j, none⟩ := fun j => World.cell?_of_block (w := W) (h.block b hb)
  simp only [e1, e2, e3]
  exact q
theorem run_append_empty {w : World} (base : Nat) (t ty e : TypeId) (i : TypeInfo) (size : Nat) (ht : Tryd.prog.underlying t = some (.slice e)) (hi : Tryd.prog.info? e = some i)
    (v : Value) (n : Nat) (xs : List Value) (hown : w.ownsRow base e size v n xs) (p : Option Addr) (c : Nat) :
    (Builtin.append_ #[t, t] ty #[v, .slice p 0 c]).run Tryd.prog w = .ok v w := by
  rcases hown.2 with ⟨rfl, rfl⟩ | ⟨g, cap, cur, rfl, _, _, hnc, _⟩
  · cases p <;> simp [Builtin.append_, run_underlying ht, sizeOf, typeInfo, hi, Builtin.lenOf, Builtin.firstCells, loadCells, loadCellsFrom, Result.andThen]
  · cases p <;> simp [Builtin.append_, run_underlying ht, sizeOf, typeInfo, hi, Builtin.lenOf, Builtin.firstCells, hnc, storeCells, loadCells, loadCellsFrom, Result.andThen]
theorem add_flat5 (b o k : Nat) : (⟨b, o, none⟩ : Addr).add k = ⟨b, o + k, none⟩ := by unfold Addr.add; split <;> simp_all
theorem news_rd {w : World} {b o : Nat} {l : List D4} (h : RdL w b o l) : ∀ j u, (dCells l)[j]? = some u → w.cell? ((⟨b, o, none⟩ : Addr).add j) = some u := fun j u hu => by
  have hj : j < l.length * 4 := by rw [← dCells_len]; exact (List.getElem?_eq_some_iff.mp hu).1
  have e : j = (j / 4) * 4 + j % 4 := by omega
  have hd := h.2 (j / 4) (by omega)
  have hc := dCells_at l (j / 4) (by omega)
  rw [add_flat5]
  have hq : j % 4 < 4 := Nat.mod_lt _ (by omega)
  generalize j % 4 = q at e hq
  rw [e] at hu ⊢
  match q, hq with
  | 0, _ => rw [Nat.add_zero] at hu ⊢; rw [hc.1] at hu; rw [hd.1]; exact hu
  | 1, _ => rw [hc.2.1] at hu; rw [← Nat.add_assoc, hd.2.1]; exact hu
  | 2, _ => rw [hc.2.2.1] at hu; rw [← Nat.add_assoc, hd.2.2.1]; exact hu
  | 3, _ => rw [hc.2.2.2] at hu; rw [← Nat.add_assoc, hd.2.2.2]; exact hu
theorem dCells_one : ∀ (l : List D4), ∀ u ∈ dCells l, u.oneCell' = true
  | [], u, h => by cases h
  | d :: r, u, h => by
    rcases List.mem_cons.mp h with rfl | h
    · rfl
    rcases List.mem_cons.mp h with rfl | h
    · rfl
    rcases List.mem_cons.mp h with rfl | h
    · rfl
    rcases List.mem_cons.mp h with rfl | h
    · rfl
    exact dCells_one r u h
/-- An append of digests, as one step of a region, whatever is appended. -/
theorem step_app {ops : Array Oper} {o : Oper} {a : Act} {w : World} {K : Act → World → Prop} {Q : Exit → Act → World → Prop} {E : Prop} (hgd : o.guard = none) (s x : Operand)
    (ho : o.op = .call { callee := .builtin .append, args := #[s, x], argTypes := #[22, 22] })
    (B : Nat) (v : Value) (xs q : List D4) (hs : a.eval s = v) (hown : OwnsD B v xs w) (p : Option Addr) (m c : Nat) (hx : a.eval x = .slice p m c) (hm : m = q.length) (hr : RdS w p q) (hxl : xs.length ≤ 1000) (hql : q.length ≤ 1000) (hB : B ≤ w.heap.size)
    (h : ∀ v' w', OwnsD B v' (xs ++ q) w' → w.grownBy w' v.ownBlock → K (a.put o.dst v') w') :
    if Region.wanted o (yielded ops a.tmps) = true then Oper.wp Tryd.prog o a w K Q else E := by
  obtain ⟨i0, hin, hz0, hz1, hz2⟩ := info_parts info_dg
  by_cases h0 : q = []
  · subst h0
    subst hm
    have hw : Region.wanted o (yielded ops a.tmps) = true := by simp [Region.wanted, hgd]
    rw [if_pos hw]
    have hrun := run_append_empty (w := w) B 22 o.type 26 i0 4 Tryd.underlying22 hin v xs.length (dCells xs) hown p c
    unfold Oper.wp
    simp [execOp, ho, resolve, invoke, builtin, hs, hx, hrun, Result.andThen]
    exact h v w (by rw [List.append_nil]; exact hown) ⟨rfl, rfl, rfl, Nat.le_refl _, fun _ _ _ => rfl⟩
  · obtain ⟨b, of, rfl, hrd⟩ := hr h0
    have hpos : 0 < q.length := List.length_pos_iff.mpr h0
    refine step_append_lies _ hgd s x _ ho B 26 i0 _ 4 16 Tryd.underlying22 hin hz0 hz1 hz2 rfl (by omega) v xs.length (dCells xs) hs hown ⟨b, of, none⟩ m c (dCells q) hx (by rw [dCells_len, hm]) (news_rd hrd) (dCells_one q) (by omega) (by unfold maxLen; omega) (by omega) hB w.heap.size rfl ?_
    intro g cap w' hown' hgrow _ _
    refine h _ w' ?_ hgrow
    unfold OwnsD
    rw [dCells_append, List.length_append, ← hm]
    exact hown'
theorem ownsD_lit0 (w : World) (B : Nat) (hB : B ≤ w.heap.size) : OwnsD B (.slice (some ⟨w.heap.size, 0, none⟩) 0 0) [] (w.alloc (.cells #[] 26)) := World.ownsRow_lit w #[] 0 hB (Nat.zero_le _) rfl
theorem rdl1 (d : D4) (w : World) : RdL (w.alloc (.cells #[.int .u32 d.d0, .int .u32 d.d1, .int .u32 d.d2, .int .u32 d.d3] 26)) w.heap.size 0 [d] := by
  have hA : Arr .u32 26 w.heap.size d.toL (w.alloc (.cells #[.int .u32 d.d0, .int .u32 d.d1, .int .u32 d.d2, .int .u32 d.d3] 26)) := heap_alloc_new w _
  refine ⟨hA.lt, fun i hi => ?_⟩
  have : i = 0 := by simp at hi; exact hi
  subst this
  obtain ⟨a, b, c, e⟩ := Arr.c4 hA
  exact ⟨a, b, c, e⟩
theorem rdl_grown {w w' : World} {row : Option Nat} {b o : Nat} {l : List D4} (h : RdL w b o l) (hg : w.grownBy w' row) (hne : some b ≠ row) : RdL w' b o l := by
  have e : ∀ j, w'.cell? ⟨b, j, none⟩ = w.cell? ⟨b, j, none⟩ := fun j => World.cell?_of_block (w := w) (hg.block b h.1 hne)
  refine ⟨Nat.lt_of_lt_of_le h.1 hg.size, fun i hi => ?_⟩
  obtain ⟨h0, h1, h2, h3⟩ := h.2 i hi
  exact ⟨by rw [e]; exact h0, by rw [e]; exact h1, by rw [e]; exact h2, by rw [e]; exact h3⟩
theorem own_new {B : Nat} {v : Value} {l : List D4} {w : World} (h : OwnsD B v l w) : some w.heap.size ≠ v.ownBlock := fun e => Nat.lt_irrefl _ (World.ownsRow.lt h _ e.symm).2
theorem lit_ne {b H : Nat} (h : b < H) : some b ≠ (Value.slice (some ⟨H, 0, none⟩) 0 0).ownBlock := fun e => by
  simp only [Value.ownBlock, Option.some.injEq] at e
  omega
theorem own_below {a w w' : World} {v : Value} {l : List D4} (hB : Below a.heap.size a w) (h : OwnsD a.heap.size v l w) (hg : w.grownBy w' v.ownBlock) : Below a.heap.size a w' := Below.grown hB hg hB.size (fun k e => (World.ownsRow.lt h k e).1)
theorem rdl_al6 {w : World} {b o : Nat} {l : List D4} (h : RdL w b o l) (x : Obj) : RdL (w.alloc x) b o l := h.on ((Below.refl _ _).alloc (Nat.le_refl _) _)
theorem own_al {B : Nat} {v : Value} {l : List D4} {w : World} (h : OwnsD B v l w) (x : Obj) : OwnsD B v l (w.alloc x) := h.on ((Below.refl _ _).alloc (Nat.le_refl _) _)
end Go.Proofs.YtnimbclnhgbdcaaDoor
