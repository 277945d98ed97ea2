/-
  The walk of OnetimeAhead (written by gen_laws5.py).
-/
import Derived.Test.YtkgkmpelclmllaaDoorOtLA
import Derived.Test.YtkgkmpelclmllaaDoorOtQ
namespace Go.Proofs.YtkgkmpelclmllaaDoor
open Go.RowKit

/-- A box of ten cells. -/
def Box10 (w : World) (b : Nat) (cs : Array Value) : Prop := w.heap[b]? = some (.cells cs 44 (0, 0))
theorem Box10.lt {w : World} {b : Nat} {cs : Array Value} (h : Box10 w b cs) : b < w.heap.size := by
  rcases Nat.lt_or_ge b w.heap.size with q | q
  · exact q
  · unfold Box10 at h
    rw [Array.getElem?_eq_none q] at h; cases h
theorem Box10.on {w w' : World} {b : Nat} {cs : Array Value} (h : Box10 w b cs) (hB : Below w.heap.size w w') : Box10 w' b cs := by
  unfold Box10
  rw [hB.block b h.lt]
  exact h
theorem Box10.cells {w : World} {b : Nat} {v0 v1 v2 v3 v4 v5 v6 v7 v8 v9 : Value} (h : Box10 w b #[v0, v1, v2, v3, v4, v5, v6, v7, v8, v9]) : w.cell? ⟨b, 0, none⟩ = some v0 ∧ w.cell? ⟨b, 1, none⟩ = some v1 ∧ w.cell? ⟨b, 2, none⟩ = some v2 ∧ w.cell? ⟨b, 3, none⟩ = some v3 ∧ w.cell? ⟨b, 4, none⟩ = some v4 ∧ w.cell? ⟨b, 5, none⟩ = some v5 ∧ w.cell? ⟨b, 6, none⟩ = some v6 ∧ w.cell? ⟨b, 7, none⟩ = some v7 ∧ w.cell? ⟨b, 8, none⟩ = some v8 ∧ w.cell? ⟨b, 9, none⟩ = some v9 :=
  ⟨cell_of_row w b 0 _ _ (0, 0) h, cell_of_row w b 1 _ _ (0, 0) h, cell_of_row w b 2 _ _ (0, 0) h, cell_of_row w b 3 _ _ (0, 0) h, cell_of_row w b 4 _ _ (0, 0) h, cell_of_row w b 5 _ _ (0, 0) h, cell_of_row w b 6 _ _ (0, 0) h, cell_of_row w b 7 _ _ (0, 0) h, cell_of_row w b 8 _ _ (0, 0) h, cell_of_row w b 9 _ _ (0, 0) h⟩
set_option maxHeartbeats 1000000 in
set_option maxRecDepth 100000 in
theorem ahead_long (msg other : D4) (p q : Option Addr) (n m sc tc : Nat) (w : World) (hT : TurnsOk w) (h : 40 < n ∨ 40 < m) : Calls Tryd.prog 9 #[.agg #[.int .u32 msg.d0, .int .u32 msg.d1, .int .u32 msg.d2, .int .u32 msg.d3, .int .u32 other.d0, .int .u32 other.d1, .int .u32 other.d2, .int .u32 other.d3, .slice p n sc, .slice q m tc]] w fun e w' => e = .returned (.bool true) ∧ Below w.heap.size w w' := by
  obtain ⟨w0, hw0⟩ : ∃ w0, w.alloc (.cells #[.int .u32 msg.d0, .int .u32 msg.d1, .int .u32 msg.d2, .int .u32 msg.d3, .int .u32 other.d0, .int .u32 other.d1, .int .u32 other.d2, .int .u32 other.d3, .slice p n sc, .slice q m tc] 44) = w0 := ⟨_, rfl⟩
  have hX0 : Box10 w0 w.heap.size #[.int .u32 msg.d0, .int .u32 msg.d1, .int .u32 msg.d2, .int .u32 msg.d3, .int .u32 other.d0, .int .u32 other.d1, .int .u32 other.d2, .int .u32 other.d3, .slice p n sc, .slice q m tc] := by rw [← hw0]; exact heap_alloc_new w _
  have hB0 : Below w.heap.size w w0 := by rw [← hw0]; exact (Below.refl _ _).alloc (Nat.le_refl _) _
  obtain ⟨c0, c1, c2, c3, c4, c5, c6, c7, c8, c9⟩ := hX0.cells
  obtain ⟨g1, hg1⟩ : ∃ g, decide (40 < (n : Int)) = g := ⟨_, rfl⟩
  obtain ⟨g2, hg2⟩ : ∃ g, decide (40 < (m : Int)) = g := ⟨_, rfl⟩
  have hall : g1 = true ∨ g2 = true := by
    subst hg1; subst hg2
    simp
    omega
  clear h
  go_enter Tryd.func9, Tryd.ntmps9
  cases g1 <;> cases g2 <;> simp at hall
  all_goals
    go_wp2_with fail
    refine (awake5_any w0 (hT.below hB0)).mono ?_
    rintro e w1 ⟨rfl, hB⟩
    go_wp2_with fail
    go_ret
    exact ⟨rfl, hB0.trans (hB.mono hB0.size)⟩
set_option maxHeartbeats 8000000 in
set_option maxRecDepth 100000 in
theorem ahead_walk (msg other : D4) (S U : List D4) (p q : Option Addr) (n m sc tc : Nat) (w : World) (hmo : msg.ok) (hoo : other.ok) (hSo : allD4 S) (hTo : allD4 U) (hn : n = S.length) (hm : m = U.length) (hrS : RdS w p S) (hrT : RdS w q U) (hsc : S.length ≤ sc) (hscm : sc ≤ maxLen) (htc : U.length ≤ tc) (htcm : tc ≤ maxLen) (hT : TurnsOk w) (h1 : n ≤ 40) (h2 : m ≤ 40) : Calls Tryd.prog 9 #[.agg #[.int .u32 msg.d0, .int .u32 msg.d1, .int .u32 msg.d2, .int .u32 msg.d3, .int .u32 other.d0, .int .u32 other.d1, .int .u32 other.d2, .int .u32 other.d3, .slice p n sc, .slice q m tc]] w fun e w' => e = .returned (.bool true) ∧ Below w.heap.size w w' := by
  have hd1 : decide (40 < (n : Int)) = false := by simp; omega
  have hd2 : decide (40 < (m : Int)) = false := by simp; omega
  obtain ⟨O, hO⟩ : ∃ O, aheadO msg other S U = O := ⟨_, rfl⟩
  obtain ⟨i, hi⟩ : ∃ i : Int, ((aI O : Nat) : Int) = i := ⟨_, rfl⟩
  obtain ⟨x, hx⟩ : ∃ x, aD U O = x := ⟨_, rfl⟩
  obtain ⟨g, hg⟩ : ∃ g, aB O = g := ⟨_, rfl⟩
  have HO := Lib.hid hO
  have HI := Lib.hid hi
  have HX := Lib.hid hx
  have HG := Lib.hid hg
  have HN := Lib.hid hn
  have HM := Lib.hid hm
  have HS := Lib.hid hSo
  have HU := Lib.hid hTo
  have H1 := Lib.hid hsc
  have H2 := Lib.hid htc
  have hE := eqD_yes x
  clear hO hi hx hg hn hm hSo hTo hsc htc h1 h2
  obtain ⟨w0, hw0⟩ : ∃ w0, w.alloc (.cells #[.int .u32 msg.d0, .int .u32 msg.d1, .int .u32 msg.d2, .int .u32 msg.d3, .int .u32 other.d0, .int .u32 other.d1, .int .u32 other.d2, .int .u32 other.d3, .slice p n sc, .slice q m tc] 44) = w0 := ⟨_, rfl⟩
  have hX0 : Box10 w0 w.heap.size #[.int .u32 msg.d0, .int .u32 msg.d1, .int .u32 msg.d2, .int .u32 msg.d3, .int .u32 other.d0, .int .u32 other.d1, .int .u32 other.d2, .int .u32 other.d3, .slice p n sc, .slice q m tc] := by rw [← hw0]; exact heap_alloc_new w _
  have hB0 : Below w.heap.size w w0 := by rw [← hw0]; exact (Below.refl _ _).alloc (Nat.le_refl _) _
  have hT0 := hT.below hB0
  have hS0 := hrS.on hB0
  have hU0 := hrT.on hB0
  obtain ⟨c0, c1, c2, c3, c4, c5, c6, c7, c8, c9⟩ := hX0.cells
  clear hT hrS hrT
  go_enter Tryd.func9, Tryd.ntmps9
  go_wp2_with fail
  clear hw0
  refine (cahead_any msg other S U p q n m sc tc w0 hmo hoo HS.out HU.out HN.out HM.out hS0 hU0 H1.out hscm H2.out htcm hT0 O HO.out i HI.out x HX.out g HG.out).mono ?_
  rintro e w1 ⟨rfl, hD⟩
  obtain ⟨w2, hw2⟩ : ∃ w2, w1.alloc (.cells #[.int .u32 x.d0, .int .u32 x.d1, .int .u32 x.d2, .int .u32 x.d3] 24) = w2 := ⟨_, rfl⟩
  have hY2 : Arr .u32 24 w1.heap.size x.toL w2 := by rw [← hw2]; exact heap_alloc_new w1 _
  have hD2 : Below w1.heap.size w1 w2 := by rw [← hw2]; exact (Below.refl _ _).alloc (Nat.le_refl _) _
  have hD02 := hD.trans (hD2.mono hD.size)
  have hX2 := hX0.on hD02
  have hS2 := hS0.on hD02
  have hU2 := hU0.on hD02
  have hB2 := hB0.trans (hD02.mono hB0.size)
  have hT2 := hT0.below hD02
  clear hX0 hS0 hU0 hB0 hT0 c0 c1 c2 c3 c4 c5 c6 c7 c8 c9 hD hD2 hD02
  obtain ⟨c0, c1, c2, c3, c4, c5, c6, c7, c8, c9⟩ := hX2.cells
  go_wp2_with fail
  clear hw2
  refine (rahead_any msg other S U p q n m sc tc w2 hmo hoo HS.out HU.out HN.out HM.out hS2 hU2 H1.out hscm H2.out htcm O HO.out i HI.out x HX.out g HG.out).mono ?_
  rintro e w3 ⟨rfl, hD⟩
  obtain ⟨w4, hw4⟩ : ∃ w4, w3.alloc (.cells #[.int .u32 x.d0, .int .u32 x.d1, .int .u32 x.d2, .int .u32 x.d3] 24) = w4 := ⟨_, rfl⟩
  have hZ4 : Arr .u32 24 w3.heap.size x.toL w4 := by rw [← hw4]; exact heap_alloc_new w3 _
  have hD2 : Below w3.heap.size w3 w4 := by rw [← hw4]; exact (Below.refl _ _).alloc (Nat.le_refl _) _
  have hD02 := hD.trans (hD2.mono hD.size)
  have hY4 := hY2.on hD02
  have hB4 := hB2.trans (hD02.mono hB2.size)
  have hT4 := hT2.below hD02
  clear hX2 hS2 hU2 hB2 hT2 hY2 c0 c1 c2 c3 c4 c5 c6 c7 c8 c9 hD hD2 hD02
  go_wp2_with fail
  clear hw4
  refine (awake5_any w4 hT4).mono ?_
  rintro e w5 ⟨rfl, hP⟩
  obtain ⟨k0, k1, k2, k3⟩ := Arr.c4 (hY4.on hP)
  obtain ⟨j0, j1, j2, j3⟩ := Arr.c4 (hZ4.on hP)
  have hB5 := hB4.trans (hP.mono hB4.size)
  go_wp2_with fail
  go_ret
  exact ⟨rfl, hB5⟩

end Go.Proofs.YtkgkmpelclmllaaDoor
