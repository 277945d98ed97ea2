/-
  The document's Check.
-/
import Derived.Test.YtnimbclnhgbdcaaDoorMkF
namespace Go.Proofs.YtnimbclnhgbdcaaDoor
open Go.RowKit

/-- Two boxes ahead. -/
theorem boxes2 (a b : D4) (w w0 : World) (h : (w.alloc (.cells #[.int .u32 a.d0, .int .u32 a.d1, .int .u32 a.d2, .int .u32 a.d3] 26)).alloc (.cells #[.int .u32 b.d0, .int .u32 b.d1, .int .u32 b.d2, .int .u32 b.d3] 26) = w0) :
    Arr .u32 26 w.heap.size a.toL w0 ∧ Arr .u32 26 (w.heap.size + 1) b.toL w0 ∧ Below w.heap.size w w0 := by
  subst h
  obtain ⟨w1, h1⟩ : ∃ w1, w.alloc (.cells #[.int .u32 a.d0, .int .u32 a.d1, .int .u32 a.d2, .int .u32 a.d3] 26) = w1 := ⟨_, rfl⟩
  have hA1 : Arr .u32 26 w.heap.size a.toL w1 := by rw [← h1]; exact heap_alloc_new w _
  have a1 : w1.heap.size = w.heap.size + 1 := by rw [← h1]; simp
  have B1 : Below w.heap.size w w1 := by rw [← h1]; exact (Below.refl _ _).alloc (Nat.le_refl _) _
  rw [h1]
  refine ⟨hA1.al _, ?_, B1.alloc (by omega) _⟩
  rw [← a1]
  exact heap_alloc_new w1 _
theorem RdS.on {w w' : World} {p : Option Addr} {l : List D4} (h : RdS w p l) (hB : Below w.heap.size w w') : RdS w' p l := fun hne => by
  obtain ⟨b, o, e, hr⟩ := h hne
  exact ⟨b, o, e, hr.on hB⟩
/-- Does a proof show it? -/
def checkD (root : D4) (n i : Int) (leaf : D4) (p : List D4) : Bool :=
  if 1000 < n ∨ i < 0 ∨ n ≤ i ∨ 20 < p.length then false else (upD n.toNat i.toNat leaf p).2 && sameD (upD n.toNat i.toNat leaf p).1 root
theorem up_gen (p : List D4) (hp : allD4 p) (z : D4) (bl : Bool) (n i : Nat) (x : D4) (a : Option Addr) (L cap : Nat) (u v : Int) (w : World) (hu : (n : Int) = u) (hv : (i : Int) = v) (h1 : 1 ≤ n) (hle : n ≤ 1000000) (hi : i ≤ 1000000) (hx : x.ok) (hr : RdS w a p) (hL : L = p.length) (hc : p.length ≤ cap) (hm : cap ≤ maxLen) (hz : upD n i x p = (z, bl)) :
    Calls Tryd.prog 35 #[.int .i64 u, .int .i64 v, .agg #[.int .u32 x.d0, .int .u32 x.d1, .int .u32 x.d2, .int .u32 x.d3], .slice a L cap] w fun e w' => e = .returned (.tuple #[.agg #[.int .u32 z.d0, .int .u32 z.d1, .int .u32 z.d2, .int .u32 z.d3], .bool bl]) ∧ Below w.heap.size w w' := by
  subst hL; subst hu; subst hv
  have := up_any p hp n i x a cap w h1 hle hi hx hr hc hm
  rw [hz] at this
  exact this
set_option maxHeartbeats 2000000 in
set_option maxRecDepth 100000 in
theorem rcheck_no (root leaf : D4) (n i : Int) (a : Option Addr) (L cap : Nat) (w : World) (h : 1000 < n ∨ i < 0 ∨ n ≤ i ∨ 20 < L) :
    Calls Tryd.prog 17 #[root.val, .int .i64 n, .int .i64 i, leaf.val, .slice a L cap] w fun e w' => e = .returned (.bool false) ∧ Below w.heap.size w w' := by
  obtain ⟨w0, hw0⟩ : ∃ w0, (w.alloc (.cells #[.int .u32 root.d0, .int .u32 root.d1, .int .u32 root.d2, .int .u32 root.d3] 26)).alloc (.cells #[.int .u32 leaf.d0, .int .u32 leaf.d1, .int .u32 leaf.d2, .int .u32 leaf.d3] 26) = w0 := ⟨_, rfl⟩
  obtain ⟨_, _, hB⟩ := boxes2 root leaf w w0 hw0
  obtain ⟨g1, hg1⟩ : ∃ g, decide (1000 < n) = g := ⟨_, rfl⟩
  obtain ⟨g2, hg2⟩ : ∃ g, decide (i < 0) = g := ⟨_, rfl⟩
  obtain ⟨g3, hg3⟩ : ∃ g, decide (n ≤ i) = g := ⟨_, rfl⟩
  obtain ⟨g4, hg4⟩ : ∃ g, decide (20 < (L : Int)) = g := ⟨_, rfl⟩
  have hall : g1 = true ∨ g2 = true ∨ g3 = true ∨ g4 = true := by
    subst hg1; subst hg2; subst hg3; subst hg4
    simp
    omega
  clear h
  go_enter Tryd.func17, Tryd.ntmps17
  simp only [D4.val]
  cases g1 <;> cases g2 <;> cases g3 <;> cases g4 <;> simp at hall <;> (go_wp2_with fail; go_ret; exact ⟨rfl, hB⟩)
set_option maxHeartbeats 2000000 in
set_option maxRecDepth 100000 in
theorem rcheck_yes (root leaf : D4) (n i : Int) (p : List D4) (a : Option Addr) (cap : Nat) (w : World) (h1 : n ≤ 1000) (h2 : 0 ≤ i) (h3 : i < n) (h4 : p.length ≤ 20) (hlo : leaf.ok) (hp : allD4 p) (hr : RdS w a p) (hc : p.length ≤ cap) (hm : cap ≤ maxLen) :
    Calls Tryd.prog 17 #[root.val, .int .i64 n, .int .i64 i, leaf.val, .slice a p.length cap] w fun e w' => e = .returned (.bool ((upD n.toNat i.toNat leaf p).2 && sameD (upD n.toNat i.toNat leaf p).1 root)) ∧ Below w.heap.size w w' := by
  obtain ⟨⟨z, bl⟩, hz⟩ : ∃ z, upD n.toNat i.toNat leaf p = z := ⟨_, rfl⟩
  rw [hz]
  have HZ := Lib.hid hz
  clear hz
  obtain ⟨w0, hw0⟩ : ∃ w0, (w.alloc (.cells #[.int .u32 root.d0, .int .u32 root.d1, .int .u32 root.d2, .int .u32 root.d3] 26)).alloc (.cells #[.int .u32 leaf.d0, .int .u32 leaf.d1, .int .u32 leaf.d2, .int .u32 leaf.d3] 26) = w0 := ⟨_, rfl⟩
  obtain ⟨hA, hL, hB⟩ := boxes2 root leaf w w0 hw0
  obtain ⟨l0, l1, l2, l3⟩ := Arr.c4 hL
  have hr0 := hr.on hB
  clear hr hL
  have hg1 : decide (1000 < n) = false := by simp; omega
  have hg2 : decide (i < 0) = false := by simp; omega
  have hg3 : decide (n ≤ i) = false := by simp; omega
  have hg4 : decide (20 < (p.length : Int)) = false := by simp; omega
  have hu : (n.toNat : Int) = n := by omega
  have hv : (i.toNat : Int) = i := by omega
  obtain ⟨N, hN⟩ : ∃ N, n.toNat = N := ⟨_, rfl⟩
  obtain ⟨I, hI⟩ : ∃ I, i.toNat = I := ⟨_, rfl⟩
  rw [hN] at HZ hu
  rw [hI] at HZ hv
  obtain ⟨L, hL⟩ : ∃ L, p.length = L := ⟨_, rfl⟩
  rw [hL] at hg4 ⊢
  have HL := Lib.hid hL
  have HU := Lib.hid hu
  have HV := Lib.hid hv
  have hN1 : 1 ≤ N := by omega
  have hN2 : N ≤ 1000000 := by omega
  have hI2 : I ≤ 1000000 := by omega
  clear hL hu hv hN hI h1 h2 h3 h4
  go_enter Tryd.func17, Tryd.ntmps17
  simp only [D4.val]
  go_wp2_with fail
  clear hw0
  refine (up_gen p hp z bl N I leaf a L cap n i w0 HU.out HV.out hN1 hN2 hI2 hlo hr0 HL.out.symm hc hm HZ.out).mono ?_
  rintro e w1 ⟨rfl, hB1⟩
  have hA1 := hA.on hB1
  have hB2 := hB.trans (hB1.mono hB.size)
  have hAlt := hA1.lt
  obtain ⟨a0, a1, a2, a3⟩ := Arr.c4 hA1
  have hE := eqD_run z root
  clear hA hB hB1 hr0 l0 l1 l2 l3
  cases bl
  · go_wp2_with fail
    go_ret
    exact ⟨rfl, hB2.alloc hB2.size _⟩
  · go_wp2_with fail
    go_ret
    exact ⟨rfl, hB2.alloc hB2.size _⟩
theorem rcheck_any (root leaf : D4) (n i : Int) (p : List D4) (a : Option Addr) (cap : Nat) (w : World) (hlo : leaf.ok) (hp : allD4 p) (hr : RdS w a p) (hc : p.length ≤ cap) (hm : cap ≤ maxLen) :
    Calls Tryd.prog 17 #[root.val, .int .i64 n, .int .i64 i, leaf.val, .slice a p.length cap] w fun e w' => e = .returned (.bool (checkD root n i leaf p)) ∧ Below w.heap.size w w' := by
  unfold checkD
  split
  · rename_i h
    exact rcheck_no root leaf n i a p.length cap w h
  · rename_i h
    exact rcheck_yes root leaf n i p a cap w (by omega) (by omega) (by omega) (by omega) hlo hp hr hc hm
end Go.Proofs.YtnimbclnhgbdcaaDoor
