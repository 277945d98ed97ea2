/-
  The document's Right (written by gen_in2.py).
-/
import Derived.Test.YtojgngefgianpaaDoorInA
namespace Go.Proofs.YtojgngefgianpaaDoor
open Go.RowKit

def withinB (b : Bool) (n m : Int) : Bool := if b then decide (0 ≤ n) && decide (n ≤ m) else decide (n = 0)
/-- May an instruction be? -/
def rightI (o a b c : Int) : Bool :=
  !((partsB o).toList == [63]) && (withinB (hasB (partsB o) 97) a 15 && (withinB (hasB (partsB o) 98) b 15 && withinB (hasB (partsB o) 99 || hasB (partsB o) 114) c (if hasB (partsB o) 114 then 15 else 65535)))
theorem below_dN {B : Nat} {a w : World} (h : Below B a w) (n : Nat) : Below B a (w.drewN n) := h.trans ⟨rfl, rfl, rfl, Nat.le_refl _, fun _ _ => rfl⟩
theorem partsB_size (o : Int) : (partsB o).size ≤ 1000 := by
  by_cases h : o < 1 ∨ 27 < o
  · rw [partsB_no o h]; decide
  · rcases op_cases o (by omega) (by omega) with rfl | rfl | rfl | rfl | rfl | rfl | rfl | rfl | rfl | rfl | rfl | rfl | rfl | rfl | rfl | rfl | rfl | rfl | rfl | rfl | rfl | rfl | rfl | rfl | rfl | rfl | rfl <;> decide
theorem rhas_val (s : ByteArray) (c : Int) (g : Bool) (w : World) (hs : s.size ≤ 1000) (hg : hasB s c = g) : Calls Tryd.prog 26 #[.string s, .int .u8 c] w fun e w' => e = .returned (.bool g) ∧ w = w' := by
  subst hg; exact rhas_any s c w hs
theorem rwithin_val (b : Bool) (n m : Int) (g : Bool) (w : World) (hg : withinB b n m = g) : Calls Tryd.prog 27 #[.bool b, .int .i64 n, .int .i64 m] w fun e w' => e = .returned (.bool g) ∧ w = w' := by
  subst hg; exact rwithin_any b n m w
set_option maxHeartbeats 4000000 in
set_option maxRecDepth 100000 in
theorem rright_any (o a b c : Int) (w : World) : Calls Tryd.prog 13 #[.agg #[.int .i64 o, .int .i64 a, .int .i64 b, .int .i64 c]] w fun e w' => e = .returned (.bool (rightI o a b c)) ∧ Below w.heap.size w w' := by
  obtain ⟨p, hp⟩ : ∃ p, partsB o = p := ⟨_, rfl⟩
  have HS := Lib.hid (show p.size ≤ 1000 by rw [← hp]; exact partsB_size o)
  obtain ⟨q0, hq0⟩ : ∃ q, (p.toList == [63]) = q := ⟨_, rfl⟩
  obtain ⟨qa, hqa⟩ : ∃ q, hasB p 97 = q := ⟨_, rfl⟩
  obtain ⟨qb, hqb⟩ : ∃ q, hasB p 98 = q := ⟨_, rfl⟩
  obtain ⟨qc, hqc⟩ : ∃ q, hasB p 99 = q := ⟨_, rfl⟩
  obtain ⟨qr, hqr⟩ : ∃ q, hasB p 114 = q := ⟨_, rfl⟩
  obtain ⟨ga, hga⟩ : ∃ q, withinB qa a 15 = q := ⟨_, rfl⟩
  obtain ⟨gb, hgb⟩ : ∃ q, withinB qb b 15 = q := ⟨_, rfl⟩
  obtain ⟨gc, hgc⟩ : ∃ q, withinB (qc || qr) c (if qr then 15 else 65535) = q := ⟨_, rfl⟩
  have HV : Hid (rightI o a b c = (!q0 && (ga && (gb && gc)))) := by show _ = _; rw [rightI, hp, hq0, hqa, hqb, hqc, hqr, hga, hgb, hgc]
  obtain ⟨w0, hw0⟩ : ∃ w0, w.alloc (.cells #[.int .i64 o, .int .i64 a, .int .i64 b, .int .i64 c] 23) = w0 := ⟨_, rfl⟩
  have hX0 : w0.heap[w.heap.size]? = some (.cells #[.int .i64 o, .int .i64 a, .int .i64 b, .int .i64 c] 23 (0, 0)) := by rw [← hw0]; exact heap_alloc_new w _
  have hB0 : Below w.heap.size w w0 := by rw [← hw0]; exact (Below.refl _ _).alloc (Nat.le_refl _) _
  have c0 : w0.cell? ⟨w.heap.size, 0, none⟩ = some (.int .i64 o) := by rw [cell_of_row w0 _ 0 _ _ _ hX0]; rfl
  have c1 : w0.cell? ⟨w.heap.size, 1, none⟩ = some (.int .i64 a) := by rw [cell_of_row w0 _ 1 _ _ _ hX0]; rfl
  have c2 : w0.cell? ⟨w.heap.size, 2, none⟩ = some (.int .i64 b) := by rw [cell_of_row w0 _ 2 _ _ _ hX0]; rfl
  have c3 : w0.cell? ⟨w.heap.size, 3, none⟩ = some (.int .i64 c) := by rw [cell_of_row w0 _ 3 _ _ _ hX0]; rfl
  have HP := Lib.hid hp
  have HR := Lib.hid hqr
  clear hp hX0
  go_enter Tryd.func13, Tryd.ntmps13
  go_wp2_with fail
  clear hw0
  refine (rparts_any o w0).mono ?_
  rintro e w1 ⟨rfl, rfl⟩
  rw [HP.out]
  go_wp2_with fail
  refine (rhas_val p 114 qr w0 HS.out HR.out).mono ?_
  rintro e w1 ⟨rfl, rfl⟩
  have HA := Lib.hid hqa
  have HB := Lib.hid hqb
  have HC := Lib.hid hqc
  have HGA := Lib.hid hga
  have HGB := Lib.hid hgb
  have HGC := Lib.hid hgc
  clear hqa hqb hqc hqr hga hgb hgc
  cases qr
  · go_wp2_with fail
    cases q0
    · cases ga
      · go_quiet (first
          | (go_at_call 26; with_reducible refine Calls.quiet_of_same ((rhas_val p 97 qa _ HS.out HA.out).mono fun _ _ h => ⟨h.1, h.2.symm⟩))
          | (go_at_call 27; with_reducible refine Calls.quiet_of_same ((rwithin_val qa a 15 false _ HGA.out).mono fun _ _ h => ⟨h.1, h.2.symm⟩)))
        all_goals
          go_wp2_with fail
          go_ret
          exact ⟨by rw [HV.out]; rfl, below_dN hB0 _⟩
      · cases gb
        · go_quiet (first
            | (go_at_call 26; with_reducible refine Calls.quiet_of_same ((rhas_val p 97 qa _ HS.out HA.out).mono fun _ _ h => ⟨h.1, h.2.symm⟩))
            | (go_at_call 27; with_reducible refine Calls.quiet_of_same ((rwithin_val qa a 15 true _ HGA.out).mono fun _ _ h => ⟨h.1, h.2.symm⟩))
            | (go_at_call 26; with_reducible refine Calls.quiet_of_same ((rhas_val p 98 qb _ HS.out HB.out).mono fun _ _ h => ⟨h.1, h.2.symm⟩))
            | (go_at_call 27; with_reducible refine Calls.quiet_of_same ((rwithin_val qb b 15 false _ HGB.out).mono fun _ _ h => ⟨h.1, h.2.symm⟩)))
          all_goals
            go_wp2_with fail
            go_ret
            exact ⟨by rw [HV.out]; rfl, below_dN hB0 _⟩
        · cases qc
          · have HG2 : Hid (withinB false c 65535 = gc) := HGC
            go_quiet (first
              | (go_at_call 26; with_reducible refine Calls.quiet_of_same ((rhas_val p 97 qa _ HS.out HA.out).mono fun _ _ h => ⟨h.1, h.2.symm⟩))
              | (go_at_call 27; with_reducible refine Calls.quiet_of_same ((rwithin_val qa a 15 true _ HGA.out).mono fun _ _ h => ⟨h.1, h.2.symm⟩))
              | (go_at_call 26; with_reducible refine Calls.quiet_of_same ((rhas_val p 98 qb _ HS.out HB.out).mono fun _ _ h => ⟨h.1, h.2.symm⟩))
              | (go_at_call 27; with_reducible refine Calls.quiet_of_same ((rwithin_val qb b 15 true _ HGB.out).mono fun _ _ h => ⟨h.1, h.2.symm⟩))
              | (go_at_call 26; with_reducible refine Calls.quiet_of_same ((rhas_val p 99 false _ HS.out HC.out).mono fun _ _ h => ⟨h.1, h.2.symm⟩))
              | (go_at_call 26; with_reducible refine Calls.quiet_of_same ((rhas_val p 114 false _ HS.out HR.out).mono fun _ _ h => ⟨h.1, h.2.symm⟩))
              | (go_at_call 27; with_reducible refine Calls.quiet_of_same ((rwithin_val false c 65535 gc _ HG2.out).mono fun _ _ h => ⟨h.1, h.2.symm⟩)))
            all_goals
              go_wp2_with fail
              go_ret
              exact ⟨by rw [HV.out]; rfl, below_dN hB0 _⟩
          · have HG2 : Hid (withinB true c 65535 = gc) := HGC
            go_quiet (first
              | (go_at_call 26; with_reducible refine Calls.quiet_of_same ((rhas_val p 97 qa _ HS.out HA.out).mono fun _ _ h => ⟨h.1, h.2.symm⟩))
              | (go_at_call 27; with_reducible refine Calls.quiet_of_same ((rwithin_val qa a 15 true _ HGA.out).mono fun _ _ h => ⟨h.1, h.2.symm⟩))
              | (go_at_call 26; with_reducible refine Calls.quiet_of_same ((rhas_val p 98 qb _ HS.out HB.out).mono fun _ _ h => ⟨h.1, h.2.symm⟩))
              | (go_at_call 27; with_reducible refine Calls.quiet_of_same ((rwithin_val qb b 15 true _ HGB.out).mono fun _ _ h => ⟨h.1, h.2.symm⟩))
              | (go_at_call 26; with_reducible refine Calls.quiet_of_same ((rhas_val p 99 true _ HS.out HC.out).mono fun _ _ h => ⟨h.1, h.2.symm⟩))
              | (go_at_call 27; with_reducible refine Calls.quiet_of_same ((rwithin_val true c 65535 gc _ HG2.out).mono fun _ _ h => ⟨h.1, h.2.symm⟩)))
            all_goals
              go_wp2_with fail
              go_ret
              exact ⟨by rw [HV.out]; rfl, below_dN hB0 _⟩
    · go_quiet (fail)
      all_goals
        go_wp2_with fail
        go_ret
        exact ⟨by rw [HV.out]; rfl, below_dN hB0 _⟩
  · go_wp2_with fail
    cases q0
    · cases ga
      · go_quiet (first
          | (go_at_call 26; with_reducible refine Calls.quiet_of_same ((rhas_val p 97 qa _ HS.out HA.out).mono fun _ _ h => ⟨h.1, h.2.symm⟩))
          | (go_at_call 27; with_reducible refine Calls.quiet_of_same ((rwithin_val qa a 15 false _ HGA.out).mono fun _ _ h => ⟨h.1, h.2.symm⟩)))
        all_goals
          go_wp2_with fail
          go_ret
          exact ⟨by rw [HV.out]; rfl, below_dN hB0 _⟩
      · cases gb
        · go_quiet (first
            | (go_at_call 26; with_reducible refine Calls.quiet_of_same ((rhas_val p 97 qa _ HS.out HA.out).mono fun _ _ h => ⟨h.1, h.2.symm⟩))
            | (go_at_call 27; with_reducible refine Calls.quiet_of_same ((rwithin_val qa a 15 true _ HGA.out).mono fun _ _ h => ⟨h.1, h.2.symm⟩))
            | (go_at_call 26; with_reducible refine Calls.quiet_of_same ((rhas_val p 98 qb _ HS.out HB.out).mono fun _ _ h => ⟨h.1, h.2.symm⟩))
            | (go_at_call 27; with_reducible refine Calls.quiet_of_same ((rwithin_val qb b 15 false _ HGB.out).mono fun _ _ h => ⟨h.1, h.2.symm⟩)))
          all_goals
            go_wp2_with fail
            go_ret
            exact ⟨by rw [HV.out]; rfl, below_dN hB0 _⟩
        · cases qc
          · have HG2 : Hid (withinB true c 15 = gc) := HGC
            go_quiet (first
              | (go_at_call 26; with_reducible refine Calls.quiet_of_same ((rhas_val p 97 qa _ HS.out HA.out).mono fun _ _ h => ⟨h.1, h.2.symm⟩))
              | (go_at_call 27; with_reducible refine Calls.quiet_of_same ((rwithin_val qa a 15 true _ HGA.out).mono fun _ _ h => ⟨h.1, h.2.symm⟩))
              | (go_at_call 26; with_reducible refine Calls.quiet_of_same ((rhas_val p 98 qb _ HS.out HB.out).mono fun _ _ h => ⟨h.1, h.2.symm⟩))
              | (go_at_call 27; with_reducible refine Calls.quiet_of_same ((rwithin_val qb b 15 true _ HGB.out).mono fun _ _ h => ⟨h.1, h.2.symm⟩))
              | (go_at_call 26; with_reducible refine Calls.quiet_of_same ((rhas_val p 99 false _ HS.out HC.out).mono fun _ _ h => ⟨h.1, h.2.symm⟩))
              | (go_at_call 26; with_reducible refine Calls.quiet_of_same ((rhas_val p 114 true _ HS.out HR.out).mono fun _ _ h => ⟨h.1, h.2.symm⟩))
              | (go_at_call 27; with_reducible refine Calls.quiet_of_same ((rwithin_val true c 15 gc _ HG2.out).mono fun _ _ h => ⟨h.1, h.2.symm⟩)))
            all_goals
              go_wp2_with fail
              go_ret
              exact ⟨by rw [HV.out]; rfl, below_dN hB0 _⟩
          · have HG2 : Hid (withinB true c 15 = gc) := HGC
            go_quiet (first
              | (go_at_call 26; with_reducible refine Calls.quiet_of_same ((rhas_val p 97 qa _ HS.out HA.out).mono fun _ _ h => ⟨h.1, h.2.symm⟩))
              | (go_at_call 27; with_reducible refine Calls.quiet_of_same ((rwithin_val qa a 15 true _ HGA.out).mono fun _ _ h => ⟨h.1, h.2.symm⟩))
              | (go_at_call 26; with_reducible refine Calls.quiet_of_same ((rhas_val p 98 qb _ HS.out HB.out).mono fun _ _ h => ⟨h.1, h.2.symm⟩))
              | (go_at_call 27; with_reducible refine Calls.quiet_of_same ((rwithin_val qb b 15 true _ HGB.out).mono fun _ _ h => ⟨h.1, h.2.symm⟩))
              | (go_at_call 26; with_reducible refine Calls.quiet_of_same ((rhas_val p 99 true _ HS.out HC.out).mono fun _ _ h => ⟨h.1, h.2.symm⟩))
              | (go_at_call 27; with_reducible refine Calls.quiet_of_same ((rwithin_val true c 15 gc _ HG2.out).mono fun _ _ h => ⟨h.1, h.2.symm⟩)))
            all_goals
              go_wp2_with fail
              go_ret
              exact ⟨by rw [HV.out]; rfl, below_dN hB0 _⟩
    · go_quiet (fail)
      all_goals
        go_wp2_with fail
        go_ret
        exact ⟨by rw [HV.out]; rfl, below_dN hB0 _⟩
end Go.Proofs.YtojgngefgianpaaDoor
