/-
  What all the statements of this seat share: words, and an image, as arguments.
-/
import Derived.Test.YtfaedjpfbaiojaaRows
import Derived.WalkKit
import Derived.ProofKit
import Derived.OpenShut
import Derived.Carry
import Derived.ChangeArms
import Derived.ChangeMaps5
import Derived.ChangeSlices
import Derived.SizedLaws
import Derived.Test.YtfaedjpfbaiojaaImA
namespace Go.Proofs.Ytfaedjpfbaiojaa
open Go.ChangeShapes Go.WideShapes Go.ChangeAt Go.RowKit

theorem own : ownKnob Try.prog.godebug = none := by kernel_rfl
theorem laidOut : laidOutB Try.prog = true := by kernel_rfl
theorem cellsU32 : Try.prog.cellsOf 35 = 1 := by kernel_rfl
theorem cells_sl : Try.prog.cellsOf 22 = 1 := by kernel_rfl
theorem cells_int : Try.prog.cellsOf 3 = 1 := by kernel_rfl
theorem cells_im : Try.prog.cellsOf 24 = 2 := by kernel_rfl
theorem add_flat (b o k : Nat) : (⟨b, o, none⟩ : Addr).add k = ⟨b, o + k, none⟩ := by unfold Addr.add; split <;> simp_all
theorem wf_u32 {n : Int} (h : (Lit.int .u32 n).wf = true) : 0 ≤ n ∧ n < 4294967296 := by
  simp [Lit.wf, IntKind.min, IntKind.max, IntKind.signed, IntKind.bits] at h
  omega
theorem cell_block {w : World} {a : Addr} {v : Value} (h : w.cell? a = some v) : a.block < w.heap.size := by
  rcases Nat.lt_or_ge a.block w.heap.size with h' | h'
  · exact h'
  · simp [World.cell?, Array.getElem?_eq_none h'] at h
/-- A slice of words that came in, nil or not, as the walk wants it. -/
theorem open_words {H : Type} {enc : TypeId × Value → H} {W : World} {v : Value} {fuel : Nat} {x : DataW H × List MemPlace}
    (hf : DataW.trod enc Try.prog W 0 (fun _ => true) true fuel 22 [v] = some x) :
    ∃ (p : Option Addr) (cap : Nat) (xs : List Int), v = .slice p xs.length cap ∧ Bd xs ∧ RdW W v xs ∧ xs.length ≤ cap ∧ cap ≤ maxLen := by
  rcases open_ints Try.underlying22 Try.underlying35 cellsU32 hf with ⟨hcs, _⟩ | ⟨a, len, cap, zs, hcs, _, hl, hm, hz, _, hcell, hw⟩
  · simp at hcs
    subst hcs
    exact ⟨none, 0, [], rfl, (show Bd [] from fun x hx => absurd hx (by simp)), RdW.nil W, Nat.le_refl _, Nat.zero_le _⟩
  · simp at hcs
    subst hcs
    simp only [if_true] at hz
    have hlen : (zs.take len).length = len := by rw [List.length_take]; omega
    have hbd : Bd (zs.take len) := fun x hx => wf_u32 (hw x (List.mem_of_mem_take hx))
    obtain ⟨b, off, spot⟩ := a
    refine ⟨some ⟨b, off, spot⟩, cap, zs.take len, by rw [hlen], hbd, ⟨some ⟨b, off, spot⟩, cap, by rw [hlen], fun hne => ?_⟩, by omega, hm⟩
    have h0 := hcell 0 (by omega)
    have hspot : spot = none := by simpa [Addr.add] using World.cell?_spot h0
    subst hspot
    refine ⟨b, off, rfl, cell_block h0, fun k hk => ?_⟩
    have hk' : k < zs.length := by omega
    have h1 := hcell k hk'
    rw [add_flat] at h1
    rw [h1]
    simp [List.getD, List.getElem?_eq_getElem hk']
theorem two_of : ∀ (cs : List Value), cs.length = 2 → ∃ a0 a1, cs = [a0, a1]
  | [a0, a1], _ => ⟨a0, a1, rfl⟩
set_option maxRecDepth 100000 in
/-- An image that came in. -/
theorem open_im {H : Type} {enc : TypeId × Value → H} {W : World} {v : Value} {d : DataW H} {ps : List MemPlace} (hval : Value.okWide Try.prog W .any 0 24 v) (hd : DataW.Trod enc Try.prog W 0 (fun _ => true) true 24 v d ps) :
    ∃ (p : Option Addr) (c : Nat) (xs : List Int) (z : Int), v = .agg #[.slice p xs.length c, .int .i64 z] ∧ Bd xs ∧ RdW W (.slice p xs.length c) xs ∧ xs.length ≤ c ∧ c ≤ maxLen := by
  unfold Value.okWide at hval
  rw [Try.underlying24] at hval
  obtain ⟨cs, rfl, hs, _⟩ := hval
  obtain ⟨fuel, hf⟩ := hd
  obtain ⟨cs⟩ := cs
  replace hf : DataW.trod enc Try.prog W 0 (fun _ => true) true fuel 24 cs = some (d, ps) := hf
  obtain ⟨xs, m0, _, hx, hl, hn, hi⟩ := DataW.trod_struct Try.underlying24 hf
  rw [cells_im] at hl
  have hnx : xs.length = 2 := hn
  have h0 : DataW.trod enc Try.prog W 0 (fun _ => true) true m0 22 (List.take (Try.prog.cellsOf 22) (List.drop 0 cs)) = xs[0]? := hi 0 _ rfl
  rw [cells_sl, List.getElem?_eq_getElem (show 0 < xs.length by omega)] at h0
  have h1 : DataW.trod enc Try.prog W 0 (fun _ => true) true m0 3 (List.take (Try.prog.cellsOf 3) (List.drop 1 cs)) = xs[1]? := hi 1 _ rfl
  rw [cells_int, List.getElem?_eq_getElem (show 1 < xs.length by omega)] at h1
  obtain ⟨a0, a1, e⟩ := two_of _ hl
  subst e
  obtain ⟨p, c, zs, e0, hb, hr, hc, hm⟩ := open_words (v := a0) h0
  obtain ⟨z, hz, _, _⟩ := DataW.trod_int Try.underlying3 h1
  simp at hz
  subst e0
  exact ⟨p, c, zs, z, by rw [hz], hb, hr, hc, hm⟩
end Go.Proofs.Ytfaedjpfbaiojaa
