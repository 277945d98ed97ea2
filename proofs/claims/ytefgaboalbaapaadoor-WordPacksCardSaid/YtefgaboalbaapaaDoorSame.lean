/-
  The contract of Same, of two lists of words that read alike.
-/
import Derived.Test.YtefgaboalbaapaaDoorWords
import Derived.Lib.ItoaMem
namespace Go.Proofs.YtefgaboalbaapaaDoor
open Go.RowKit

/-- A slice reads as these words. -/
def RdW (w : World) (v : Value) (xs : List Int) : Prop :=
  ∃ p cap, v = .slice p xs.length cap ∧ (xs.length ≠ 0 → ∃ bk o, p = some ⟨bk, o, none⟩ ∧ bk < w.heap.size ∧ ∀ (k : Nat) (h : k < xs.length), w.cell? ⟨bk, o + k, none⟩ = some (.int .u32 xs[k]))
theorem RdW.below {w w' : World} {v : Value} {xs : List Int} (h : RdW w v xs) (hB : Below w.heap.size w w') : RdW w' v xs := by
  obtain ⟨p, cap, hv, hp⟩ := h
  refine ⟨p, cap, hv, fun hn => ?_⟩
  obtain ⟨bk, o, h1, h2, h3⟩ := hp hn
  exact ⟨bk, o, h1, Nat.lt_of_lt_of_le h2 hB.size, fun k hk => by rw [hB.cell (p := ⟨bk, o + k, none⟩) h2]; exact h3 k hk⟩
theorem OwnsW.reads {B : Nat} {v : Value} {xs : List Int} {w : World} (h : OwnsW B v xs w) : RdW w v xs := by
  have h0 := h
  unfold OwnsW at h
  rcases h.2 with ⟨hv, hn⟩ | ⟨g, cap, cur, rfl, hb, hg, _⟩
  · exact ⟨none, 0, by rw [hv, hn], fun q => absurd hn q⟩
  · refine ⟨some ⟨g, 0, none⟩, cap, rfl, fun _ => ⟨g, 0, rfl, ?_, fun k hk => ?_⟩⟩
    · rcases Nat.lt_or_ge g w.heap.size with q | q
      · exact q
      · rw [Array.getElem?_eq_none q] at hg; cases hg
    · have hc := h.cells (g := g) rfl k (.int .u32 xs[k]) (by simp [wCells, List.getElem?_eq_getElem hk])
      rw [Lib.add_plain] at hc
      exact hc
theorem RdW.nil (w : World) : RdW w (.slice none 0 0) [] := ⟨none, 0, rfl, fun h => absurd rfl h⟩

set_option maxHeartbeats 1000000 in
theorem same_any (v1 v2 : Value) (xs : List Int) (w : World) (hn : xs.length ≤ 1000000) (h1 : RdW w v1 xs) (h2 : RdW w v2 xs) :
    Calls Tryd.prog 19 #[v1, v2] w fun e w' => e = .returned (.bool true) ∧ Below w.heap.size w w' := by
  obtain ⟨p1, cap1, rfl, hp1⟩ := h1
  obtain ⟨p2, cap2, rfl, hp2⟩ := h2
  have H1 := Lib.hid hp1
  have H2 := Lib.hid hp2
  clear hp1 hp2
  go_enter Tryd.func19, Tryd.ntmps19
  go_wp2
  go_loopw [5] (fun i wr => ∃ k m : Nat, k ≤ xs.length ∧ i = .int .i64 k ∧ wr = w.drewN m) (fun i _ => xs.length - (intOf i).toNat)
  case atStart => exact ⟨0, 0, Nat.zero_le _, rfl, rfl⟩
  case round =>
    obtain ⟨k, m, hk, rfl, rfl⟩ := hrel
    by_cases hlt : k < xs.length
    · obtain ⟨b1, o1, rfl, _, hc1⟩ := H1.out (by omega)
      obtain ⟨b2, o2, rfl, _, hc2⟩ := H2.out (by omega)
      have c1 := hc1 k hlt
      have c2 := hc2 k hlt
      clear hc1 hc2
      obtain ⟨x, hx⟩ : ∃ x : Int, x = xs[k] := ⟨_, rfl⟩
      rw [← hx] at c1 c2
      clear hx
      have hlt' : (k : Int) < xs.length := by omega
      go_wp2
      go_quiet (fail)
      go_wp2
      go_roundw
      case rel => exact ⟨k + 1, _, by omega, by go_num, rfl⟩
      case measure => simp [intOf]; omega
    · go_wp2
      go_ret
      exact ⟨rfl, below_drewN (Below.refl _ _) m⟩
end Go.Proofs.YtefgaboalbaapaaDoor
