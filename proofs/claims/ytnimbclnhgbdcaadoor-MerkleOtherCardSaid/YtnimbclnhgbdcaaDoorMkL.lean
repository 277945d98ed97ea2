/-
  The document's example (written by gen_alive.py).
-/
import Derived.Test.YtnimbclnhgbdcaaDoorMkU
import Derived.Test.YtnimbclnhgbdcaaDoorMkI
import Derived.Test.YtnimbclnhgbdcaaDoorMkK
namespace Go.Proofs.YtnimbclnhgbdcaaDoor
open Go.RowKit

theorem rof_named (t : ByteArray) (y : D4) (w : World) (ht : t.size ≤ 100000) (hy : ofD t.data.toList = y) : Calls Tryd.prog 26 #[.string t] w fun e w' => e = .returned (.agg #[.int .u32 y.d0, .int .u32 y.d1, .int .u32 y.d2, .int .u32 y.d3]) ∧ Below w.heap.size w w' := by
  subst hy; exact rof_any t w ht
theorem rdl2 (a b : D4) (w : World) : RdL (w.alloc (.cells #[.int .u32 a.d0, .int .u32 a.d1, .int .u32 a.d2, .int .u32 a.d3, .int .u32 b.d0, .int .u32 b.d1, .int .u32 b.d2, .int .u32 b.d3] 26)) w.heap.size 0 [a, b] := by
  refine ⟨by simp, fun i hi => ?_⟩
  have h : ∀ j v, (#[.int .u32 a.d0, .int .u32 a.d1, .int .u32 a.d2, .int .u32 a.d3, .int .u32 b.d0, .int .u32 b.d1, .int .u32 b.d2, .int .u32 b.d3] : Array Value)[j]? = some v → (w.alloc (.cells #[.int .u32 a.d0, .int .u32 a.d1, .int .u32 a.d2, .int .u32 a.d3, .int .u32 b.d0, .int .u32 b.d1, .int .u32 b.d2, .int .u32 b.d3] 26)).cell? ⟨w.heap.size, j, none⟩ = some v := fun j v hv => by rw [cell_of_row _ _ _ _ _ _ (heap_alloc_new w _)]; exact hv
  match i, hi with
  | 0, _ => exact ⟨h 0 _ rfl, h 1 _ rfl, h 2 _ rfl, h 3 _ rfl⟩
  | 1, _ => exact ⟨h 4 _ rfl, h 5 _ rfl, h 6 _ rfl, h 7 _ rfl⟩
theorem rds2 (a b : D4) (w : World) : RdS (w.alloc (.cells #[.int .u32 a.d0, .int .u32 a.d1, .int .u32 a.d2, .int .u32 a.d3, .int .u32 b.d0, .int .u32 b.d1, .int .u32 b.d2, .int .u32 b.d3] 26)) (some ⟨w.heap.size, 0, none⟩) [a, b] := fun _ => ⟨_, _, rfl, rdl2 a b w⟩
theorem rdl3 (a b c : D4) (w : World) : RdL (w.alloc (.cells #[.int .u32 a.d0, .int .u32 a.d1, .int .u32 a.d2, .int .u32 a.d3, .int .u32 b.d0, .int .u32 b.d1, .int .u32 b.d2, .int .u32 b.d3, .int .u32 c.d0, .int .u32 c.d1, .int .u32 c.d2, .int .u32 c.d3] 26)) w.heap.size 0 [a, b, c] := by
  refine ⟨by simp, fun i hi => ?_⟩
  have h : ∀ j v, (#[.int .u32 a.d0, .int .u32 a.d1, .int .u32 a.d2, .int .u32 a.d3, .int .u32 b.d0, .int .u32 b.d1, .int .u32 b.d2, .int .u32 b.d3, .int .u32 c.d0, .int .u32 c.d1, .int .u32 c.d2, .int .u32 c.d3] : Array Value)[j]? = some v → (w.alloc (.cells #[.int .u32 a.d0, .int .u32 a.d1, .int .u32 a.d2, .int .u32 a.d3, .int .u32 b.d0, .int .u32 b.d1, .int .u32 b.d2, .int .u32 b.d3, .int .u32 c.d0, .int .u32 c.d1, .int .u32 c.d2, .int .u32 c.d3] 26)).cell? ⟨w.heap.size, j, none⟩ = some v := fun j v hv => by rw [cell_of_row _ _ _ _ _ _ (heap_alloc_new w _)]; exact hv
  match i, hi with
  | 0, _ => exact ⟨h 0 _ rfl, h 1 _ rfl, h 2 _ rfl, h 3 _ rfl⟩
  | 1, _ => exact ⟨h 4 _ rfl, h 5 _ rfl, h 6 _ rfl, h 7 _ rfl⟩
  | 2, _ => exact ⟨h 8 _ rfl, h 9 _ rfl, h 10 _ rfl, h 11 _ rfl⟩
theorem keep3a {x y z : D4} {X Y Z : Nat} {W : World} {o : Obj} (f : W.cell? ⟨X, 0, none⟩ = some (.int .u32 x.d0) ∧ W.cell? ⟨X, 1, none⟩ = some (.int .u32 x.d1) ∧ W.cell? ⟨X, 2, none⟩ = some (.int .u32 x.d2) ∧ W.cell? ⟨X, 3, none⟩ = some (.int .u32 x.d3) ∧ W.cell? ⟨Y, 0, none⟩ = some (.int .u32 y.d0) ∧ W.cell? ⟨Y, 1, none⟩ = some (.int .u32 y.d1) ∧ W.cell? ⟨Y, 2, none⟩ = some (.int .u32 y.d2) ∧ W.cell? ⟨Y, 3, none⟩ = some (.int .u32 y.d3) ∧ W.cell? ⟨Z, 0, none⟩ = some (.int .u32 z.d0) ∧ W.cell? ⟨Z, 1, none⟩ = some (.int .u32 z.d1) ∧ W.cell? ⟨Z, 2, none⟩ = some (.int .u32 z.d2) ∧ W.cell? ⟨Z, 3, none⟩ = some (.int .u32 z.d3)) : (W.alloc o).cell? ⟨X, 0, none⟩ = some (.int .u32 x.d0) ∧ (W.alloc o).cell? ⟨X, 1, none⟩ = some (.int .u32 x.d1) ∧ (W.alloc o).cell? ⟨X, 2, none⟩ = some (.int .u32 x.d2) ∧ (W.alloc o).cell? ⟨X, 3, none⟩ = some (.int .u32 x.d3) ∧ (W.alloc o).cell? ⟨Y, 0, none⟩ = some (.int .u32 y.d0) ∧ (W.alloc o).cell? ⟨Y, 1, none⟩ = some (.int .u32 y.d1) ∧ (W.alloc o).cell? ⟨Y, 2, none⟩ = some (.int .u32 y.d2) ∧ (W.alloc o).cell? ⟨Y, 3, none⟩ = some (.int .u32 y.d3) ∧ (W.alloc o).cell? ⟨Z, 0, none⟩ = some (.int .u32 z.d0) ∧ (W.alloc o).cell? ⟨Z, 1, none⟩ = some (.int .u32 z.d1) ∧ (W.alloc o).cell? ⟨Z, 2, none⟩ = some (.int .u32 z.d2) ∧ (W.alloc o).cell? ⟨Z, 3, none⟩ = some (.int .u32 z.d3) := keep3b ((Below.refl W.heap.size W).alloc (Nat.le_refl _) o) f
theorem half_three : half 3 = 2 := by decide
theorem half_two : half 2 = 1 := by decide
theorem rootD3 (a b c : D4) : rootD [a, b, c] = pairS (pairS a b) c := by
  rw [rootD, root_more _ _ [a, b, c] (by simp)]
  show pairS (root pairS noneD ([a, b, c].take (half 3))) (root pairS noneD ([a, b, c].drop (half 3))) = _
  rw [half_three]
  show pairS (root pairS noneD [a, b]) (root pairS noneD [c]) = _
  rw [root_one, root_more _ _ [a, b] (by simp)]
  show pairS (pairS (root pairS noneD ([a, b].take (half 2))) (root pairS noneD ([a, b].drop (half 2)))) c = _
  rw [half_two]
  show pairS (pairS (root pairS noneD [a]) (root pairS noneD [b])) c = _
  rw [root_one, root_one]
theorem wayD3 (a b c : D4) : wayD [a, b, c] 1 = [a, c] := by
  rw [wayD, way_left _ _ [a, b, c] 1 (by simp) (by show 1 < half 3; rw [half_three]; omega)]
  show way pairS noneD ([a, b, c].take (half 3)) 1 ++ [root pairS noneD ([a, b, c].drop (half 3))] = _
  rw [half_three]
  show way pairS noneD [a, b] 1 ++ [root pairS noneD [c]] = _
  rw [root_one, way_right _ _ [a, b] 1 (by simp) (by show ¬ 1 < half 2; rw [half_two]; omega)]
  show (way pairS noneD ([a, b].drop (half 2)) (1 - half 2) ++ [root pairS noneD ([a, b].take (half 2))]) ++ [c] = _
  rw [half_two]
  show (way pairS noneD [b] 0 ++ [root pairS noneD [a]]) ++ [c] = _
  rw [root_one, way_few _ _ _ _ (by simp)]
  rfl
theorem goesD3 (a b c : D4) : goesD [a, b, c] 1 true = [b, c] := by
  rw [goesD, goes_left _ _ [a, b, c] 1 true (by simp) (by simp) (by show 1 ≤ half 3; rw [half_three]; omega)]
  show goes pairS noneD ([a, b, c].take (half 3)) 1 true ++ [root pairS noneD ([a, b, c].drop (half 3))] = _
  rw [half_three]
  show goes pairS noneD [a, b] 1 true ++ [root pairS noneD [c]] = _
  rw [root_one, goes_left _ _ [a, b] 1 true (by simp) (by simp) (by show 1 ≤ half 2; rw [half_two]; omega)]
  show (goes pairS noneD ([a, b].take (half 2)) 1 true ++ [root pairS noneD ([a, b].drop (half 2))]) ++ [c] = _
  rw [half_two]
  show (goes pairS noneD [a] 1 true ++ [root pairS noneD [b]]) ++ [c] = _
  rw [root_one, goes_all _ _ _ _ _ (by rfl)]
  rfl
theorem cprove_val (l q : List D4) (i b o n cap : Nat) (u : Int) (w : World) (hle : l.length ≤ 1000000) (hok : allD4 l) (hi : i < l.length) (hr : RdL w b o l) (hn : n = l.length) (hu : (i : Int) = u) (hc : n ≤ cap) (hm : cap ≤ maxLen) (hT : TurnsOk w) (hq : wayD l i = q) :
    Calls Tryd.prog 12 #[.slice (some ⟨b, o, none⟩) n cap, .int .i64 u] w fun e w' => ∃ p c, e = .returned (.tuple #[.slice p q.length c, .int .i64 0]) ∧ q.length ≤ c ∧ c ≤ maxLen ∧ RdS w' p q ∧ Below w.heap.size w w' := by
  subst hq; subst hn; subst hu
  refine (cprove_any l i b o cap w hle hok hi hr hc hm hT).mono ?_
  rintro e w' ⟨v, rfl, hO, hB⟩
  obtain ⟨p, c, rfl, h1, h2, h3⟩ := hO.form
  exact ⟨p, c, rfl, h1, h2, h3, hB⟩
theorem cproveOn_val (l q : List D4) (m b o n cap : Nat) (u : Int) (w : World) (hle : l.length ≤ 1000000) (hok : allD4 l) (h1 : 1 ≤ m) (hml : m ≤ l.length) (hr : RdL w b o l) (hn : n = l.length) (hu : (m : Int) = u) (hc : n ≤ cap) (hm : cap ≤ maxLen) (hT : TurnsOk w) (hq : goesD l m true = q) :
    Calls Tryd.prog 18 #[.slice (some ⟨b, o, none⟩) n cap, .int .i64 u] w fun e w' => ∃ p c, e = .returned (.tuple #[.slice p q.length c, .int .i64 0]) ∧ q.length ≤ c ∧ c ≤ maxLen ∧ RdS w' p q ∧ Below w.heap.size w w' := by
  subst hq; subst hn; subst hu
  refine (cproveOn_any l m b o cap w hle hok h1 hml hr hc hm hT).mono ?_
  rintro e w' ⟨v, rfl, hO, hB⟩
  obtain ⟨p, c, rfl, h1, h2, h3⟩ := hO.form
  exact ⟨p, c, rfl, h1, h2, h3, hB⟩
theorem RdS.on1 {w w' : World} {p : Option Addr} {l : List D4} (h : RdS w p l) (hB : Below w.heap.size w w') : RdS w' p l := fun hne => by
  obtain ⟨b, o, e, hr⟩ := h hne
  exact ⟨b, o, e, hr.on hB⟩
theorem rsame_yes (l : List D4) (a b : Option Addr) (n n' c d : Nat) (w : World) (hn : n = l.length) (hn' : n' = l.length) (ha : RdS w a l) (hb : RdS w b l) (hc : n ≤ c) (hcm : c ≤ maxLen) (hd : n' ≤ d) (hdm : d ≤ maxLen) :
    Calls Tryd.prog 15 #[.slice a n c, .slice b n' d] w fun e w' => e = .returned (.bool true) ∧ Below w.heap.size w w' := by
  have := rsame_any l l a b n n' c d w hn hn' ha hb hc hcm hd hdm
  rwa [decide_eq_true (rfl : l = l)] at this
set_option maxHeartbeats 4000000 in
set_option maxRecDepth 100000 in
theorem alive4_any (w : World) (hT : TurnsOk w) : Calls Tryd.prog 10 #[] w fun e w' => e = .returned (.bool true) ∧ Below w.heap.size w w' := by
  obtain ⟨a, ha⟩ : ∃ a, ofD (⟨#[97]⟩ : ByteArray).data.toList = a := ⟨_, rfl⟩
  obtain ⟨b, hb⟩ : ∃ b, ofD (⟨#[98]⟩ : ByteArray).data.toList = b := ⟨_, rfl⟩
  obtain ⟨c, hc⟩ : ∃ c, ofD (⟨#[99]⟩ : ByteArray).data.toList = c := ⟨_, rfl⟩
  have hao : a.ok := by rw [← ha]; exact ofD_ok _ (by decide)
  have hbo : b.ok := by rw [← hb]; exact ofD_ok _ (by decide)
  have hco : c.ok := by rw [← hc]; exact ofD_ok _ (by decide)
  have HA := Lib.hid ha
  have HB := Lib.hid hb
  have HC := Lib.hid hc
  clear ha hb hc
  have hl : allD4 [a, b, c] := fun d hd => by
    simp at hd
    rcases hd with rfl | rfl | rfl <;> assumption
  obtain ⟨ab, hab⟩ : ∃ y, pairS a b = y := ⟨_, rfl⟩
  obtain ⟨r, hr⟩ : ∃ y, pairS ab c = y := ⟨_, rfl⟩
  have habo : ab.ok := by rw [← hab]; exact pairS_ok hao hbo
  have HR : Hid (rootD [a, b, c] = r) := by show _ = _; rw [rootD3, hab, hr]
  have HAB := Lib.hid hab
  have HPR := Lib.hid hr
  have hE := eqD_yes r
  clear hab hr
  go_enter Tryd.func10, Tryd.ntmps10
  go_wp2_with fail
  refine (rof_named _ a w (by decide) HA.out).mono ?_
  rintro e w1 ⟨rfl, hB1⟩
  go_wp2_with fail
  refine (rof_named _ b w1 (by decide) HB.out).mono ?_
  rintro e w2 ⟨rfl, hA2⟩
  have hB2 := hB1.trans (hA2.mono hB1.size)
  go_wp2_with fail
  refine (rof_named _ c w2 (by decide) HC.out).mono ?_
  rintro e w3 ⟨rfl, hA3⟩
  have hB3 := hB2.trans (hA3.mono hB2.size)
  clear hB1 hA2 hB2 hA3
  go_wp2_with fail
  have hX : Arr .u32 26 w3.heap.size a.toL (((w3.alloc (.cells #[.int .u32 a.d0, .int .u32 a.d1, .int .u32 a.d2, .int .u32 a.d3] 26)).alloc (.cells #[.int .u32 b.d0, .int .u32 b.d1, .int .u32 b.d2, .int .u32 b.d3] 26)).alloc (.cells #[.int .u32 c.d0, .int .u32 c.d1, .int .u32 c.d2, .int .u32 c.d3] 26)) := (Arr.al (show Arr .u32 26 w3.heap.size a.toL (w3.alloc (.cells #[.int .u32 a.d0, .int .u32 a.d1, .int .u32 a.d2, .int .u32 a.d3] 26)) from heap_alloc_new w3 _) _).al _
  have hY : Arr .u32 26 (w3.heap.size + 1) b.toL (((w3.alloc (.cells #[.int .u32 a.d0, .int .u32 a.d1, .int .u32 a.d2, .int .u32 a.d3] 26)).alloc (.cells #[.int .u32 b.d0, .int .u32 b.d1, .int .u32 b.d2, .int .u32 b.d3] 26)).alloc (.cells #[.int .u32 c.d0, .int .u32 c.d1, .int .u32 c.d2, .int .u32 c.d3] 26)) := by
    have := heap_alloc_new (w3.alloc (.cells #[.int .u32 a.d0, .int .u32 a.d1, .int .u32 a.d2, .int .u32 a.d3] 26)) (.cells #[.int .u32 b.d0, .int .u32 b.d1, .int .u32 b.d2, .int .u32 b.d3] 26)
    rw [show (w3.alloc (.cells #[.int .u32 a.d0, .int .u32 a.d1, .int .u32 a.d2, .int .u32 a.d3] 26)).heap.size = w3.heap.size + 1 by simp] at this
    exact Arr.al (show Arr .u32 26 (w3.heap.size + 1) b.toL _ from this) _
  have hZ : Arr .u32 26 (w3.heap.size + 1 + 1) c.toL (((w3.alloc (.cells #[.int .u32 a.d0, .int .u32 a.d1, .int .u32 a.d2, .int .u32 a.d3] 26)).alloc (.cells #[.int .u32 b.d0, .int .u32 b.d1, .int .u32 b.d2, .int .u32 b.d3] 26)).alloc (.cells #[.int .u32 c.d0, .int .u32 c.d1, .int .u32 c.d2, .int .u32 c.d3] 26)) := by
    have := heap_alloc_new ((w3.alloc (.cells #[.int .u32 a.d0, .int .u32 a.d1, .int .u32 a.d2, .int .u32 a.d3] 26)).alloc (.cells #[.int .u32 b.d0, .int .u32 b.d1, .int .u32 b.d2, .int .u32 b.d3] 26)) (.cells #[.int .u32 c.d0, .int .u32 c.d1, .int .u32 c.d2, .int .u32 c.d3] 26)
    rw [show ((w3.alloc (.cells #[.int .u32 a.d0, .int .u32 a.d1, .int .u32 a.d2, .int .u32 a.d3] 26)).alloc (.cells #[.int .u32 b.d0, .int .u32 b.d1, .int .u32 b.d2, .int .u32 b.d3] 26)).heap.size = w3.heap.size + 1 + 1 by simp] at this
    exact this
  have hs4 : (((w3.alloc (.cells #[.int .u32 a.d0, .int .u32 a.d1, .int .u32 a.d2, .int .u32 a.d3] 26)).alloc (.cells #[.int .u32 b.d0, .int .u32 b.d1, .int .u32 b.d2, .int .u32 b.d3] 26)).alloc (.cells #[.int .u32 c.d0, .int .u32 c.d1, .int .u32 c.d2, .int .u32 c.d3] 26)).heap.size = w3.heap.size + 1 + 1 + 1 := by simp
  have hB4 : Below w.heap.size w (((w3.alloc (.cells #[.int .u32 a.d0, .int .u32 a.d1, .int .u32 a.d2, .int .u32 a.d3] 26)).alloc (.cells #[.int .u32 b.d0, .int .u32 b.d1, .int .u32 b.d2, .int .u32 b.d3] 26)).alloc (.cells #[.int .u32 c.d0, .int .u32 c.d1, .int .u32 c.d2, .int .u32 c.d3] 26)) := ((hB3.alloc hB3.size _).alloc (by have := hB3.size; simp; omega) _).alloc (by have := hB3.size; simp; omega) _
  have hL5 : RdL ((((w3.alloc (.cells #[.int .u32 a.d0, .int .u32 a.d1, .int .u32 a.d2, .int .u32 a.d3] 26)).alloc (.cells #[.int .u32 b.d0, .int .u32 b.d1, .int .u32 b.d2, .int .u32 b.d3] 26)).alloc (.cells #[.int .u32 c.d0, .int .u32 c.d1, .int .u32 c.d2, .int .u32 c.d3] 26)).alloc (.cells #[.int .u32 a.d0, .int .u32 a.d1, .int .u32 a.d2, .int .u32 a.d3, .int .u32 b.d0, .int .u32 b.d1, .int .u32 b.d2, .int .u32 b.d3, .int .u32 c.d0, .int .u32 c.d1, .int .u32 c.d2, .int .u32 c.d3] 26)) (w3.heap.size + 1 + 1 + 1) 0 [a, b, c] := by
    have := rdl3 a b c (((w3.alloc (.cells #[.int .u32 a.d0, .int .u32 a.d1, .int .u32 a.d2, .int .u32 a.d3] 26)).alloc (.cells #[.int .u32 b.d0, .int .u32 b.d1, .int .u32 b.d2, .int .u32 b.d3] 26)).alloc (.cells #[.int .u32 c.d0, .int .u32 c.d1, .int .u32 c.d2, .int .u32 c.d3] 26))
    rw [hs4] at this
    exact this
  have hB5 := hB4.alloc hB4.size (.cells #[.int .u32 a.d0, .int .u32 a.d1, .int .u32 a.d2, .int .u32 a.d3, .int .u32 b.d0, .int .u32 b.d1, .int .u32 b.d2, .int .u32 b.d3, .int .u32 c.d0, .int .u32 c.d1, .int .u32 c.d2, .int .u32 c.d3] 26)
  have hX5 := hX.al (.cells #[.int .u32 a.d0, .int .u32 a.d1, .int .u32 a.d2, .int .u32 a.d3, .int .u32 b.d0, .int .u32 b.d1, .int .u32 b.d2, .int .u32 b.d3, .int .u32 c.d0, .int .u32 c.d1, .int .u32 c.d2, .int .u32 c.d3] 26)
  have hY5 := hY.al (.cells #[.int .u32 a.d0, .int .u32 a.d1, .int .u32 a.d2, .int .u32 a.d3, .int .u32 b.d0, .int .u32 b.d1, .int .u32 b.d2, .int .u32 b.d3, .int .u32 c.d0, .int .u32 c.d1, .int .u32 c.d2, .int .u32 c.d3] 26)
  have hZ5 := hZ.al (.cells #[.int .u32 a.d0, .int .u32 a.d1, .int .u32 a.d2, .int .u32 a.d3, .int .u32 b.d0, .int .u32 b.d1, .int .u32 b.d2, .int .u32 b.d3, .int .u32 c.d0, .int .u32 c.d1, .int .u32 c.d2, .int .u32 c.d3] 26)
  clear hX hY hZ hB4 hs4
  generalize (((w3.alloc (.cells #[.int .u32 a.d0, .int .u32 a.d1, .int .u32 a.d2, .int .u32 a.d3] 26)).alloc (.cells #[.int .u32 b.d0, .int .u32 b.d1, .int .u32 b.d2, .int .u32 b.d3] 26)).alloc (.cells #[.int .u32 c.d0, .int .u32 c.d1, .int .u32 c.d2, .int .u32 c.d3] 26)).alloc (.cells #[.int .u32 a.d0, .int .u32 a.d1, .int .u32 a.d2, .int .u32 a.d3, .int .u32 b.d0, .int .u32 b.d1, .int .u32 b.d2, .int .u32 b.d3, .int .u32 c.d0, .int .u32 c.d1, .int .u32 c.d2, .int .u32 c.d3] 26) = w4 at *
  have hT4 := hT.below hB5
  refine (cprove_val [a, b, c] [a, c] 1 _ 0 3 3 1 w4 (by simp) hl (by simp) hL5 rfl rfl (Nat.le_refl _) (by unfold maxLen; omega) hT4 (wayD3 a b c)).mono ?_
  rintro e w5 ⟨p1, c1, rfl, hp1, hp2, hp3, hA5⟩
  have hX6 := hX5.on hA5
  have hY6 := hY5.on hA5
  have hZ6 := hZ5.on hA5
  have hB6 := hB5.trans (hA5.mono hB5.size)
  have hL6 := hL5.on hA5
  have hT5 := hT4.below hA5
  clear hX5 hY5 hZ5 hB5 hL5 hT4 hA5
  simp only [List.length_cons, List.length_nil, Nat.zero_add, Nat.reduceAdd] at hp1 ⊢
  go_wp2_with fail
  refine (cproveOn_val [a, b, c] [b, c] 1 _ 0 3 3 1 w5 (by simp) hl (by simp) (by simp) hL6 rfl rfl (Nat.le_refl _) (by unfold maxLen; omega) hT5 (goesD3 a b c)).mono ?_
  rintro e w6 ⟨p2, c2, rfl, hq1, hq2, hq3, hA6⟩
  have hX7 := hX6.on hA6
  have hY7 := hY6.on hA6
  have hZ7 := hZ6.on hA6
  have hB7 := hB6.trans (hA6.mono hB6.size)
  have hL7 := hL6.on hA6
  have hT6 := hT5.below hA6
  have hp4 := hp3.on1 hA6
  clear hX6 hY6 hZ6 hB6 hL6 hT5 hA6 hp3
  simp only [List.length_cons, List.length_nil, Nat.zero_add, Nat.reduceAdd] at hq1 ⊢
  go_wp2_with fail
  have hXd : Arr .u32 26 w3.heap.size a.toL w6.drew := hX7
  have hYd : Arr .u32 26 (w3.heap.size + 1) b.toL w6.drew := hY7
  have hZd : Arr .u32 26 (w3.heap.size + 1 + 1) c.toL w6.drew := hZ7
  have hBd := hB7.drew
  have hLd : RdL w6.drew (w3.heap.size + 1 + 1 + 1) 0 [a, b, c] := hL7
  have hTd : TurnsOk w6.drew := hT6
  have hpd : RdS w6.drew p1 [a, c] := hp4
  have hqd : RdS w6.drew p2 [b, c] := hq3
  have hS0 : w6.drew.cell? ⟨w3.heap.size, 0, none⟩ = some (.int .u32 a.d0) ∧ w6.drew.cell? ⟨w3.heap.size, 1, none⟩ = some (.int .u32 a.d1) ∧ w6.drew.cell? ⟨w3.heap.size, 2, none⟩ = some (.int .u32 a.d2) ∧ w6.drew.cell? ⟨w3.heap.size, 3, none⟩ = some (.int .u32 a.d3) ∧ w6.drew.cell? ⟨w3.heap.size + 1, 0, none⟩ = some (.int .u32 b.d0) ∧ w6.drew.cell? ⟨w3.heap.size + 1, 1, none⟩ = some (.int .u32 b.d1) ∧ w6.drew.cell? ⟨w3.heap.size + 1, 2, none⟩ = some (.int .u32 b.d2) ∧ w6.drew.cell? ⟨w3.heap.size + 1, 3, none⟩ = some (.int .u32 b.d3) ∧ w6.drew.cell? ⟨w3.heap.size + 1 + 1, 0, none⟩ = some (.int .u32 c.d0) ∧ w6.drew.cell? ⟨w3.heap.size + 1 + 1, 1, none⟩ = some (.int .u32 c.d1) ∧ w6.drew.cell? ⟨w3.heap.size + 1 + 1, 2, none⟩ = some (.int .u32 c.d2) ∧ w6.drew.cell? ⟨w3.heap.size + 1 + 1, 3, none⟩ = some (.int .u32 c.d3) := ⟨hXd.c4.1, hXd.c4.2.1, hXd.c4.2.2.1, hXd.c4.2.2.2, hYd.c4.1, hYd.c4.2.1, hYd.c4.2.2.1, hYd.c4.2.2.2, hZd.c4.1, hZd.c4.2.1, hZd.c4.2.2.1, hZd.c4.2.2.2⟩
  have HS0 := Lib.hid hS0
  have hm2 : 2 ≤ maxLen := by unfold maxLen; omega
  have hm3 : 3 ≤ maxLen := by unfold maxLen; omega
  clear hS0 hX7 hY7 hZ7 hB7 hL7 hT6 hp4 hq3
  go_region_held3 (fun w' => w'.cell? ⟨w3.heap.size, 0, none⟩ = some (.int .u32 a.d0) ∧ w'.cell? ⟨w3.heap.size, 1, none⟩ = some (.int .u32 a.d1) ∧ w'.cell? ⟨w3.heap.size, 2, none⟩ = some (.int .u32 a.d2) ∧ w'.cell? ⟨w3.heap.size, 3, none⟩ = some (.int .u32 a.d3) ∧ w'.cell? ⟨w3.heap.size + 1, 0, none⟩ = some (.int .u32 b.d0) ∧ w'.cell? ⟨w3.heap.size + 1, 1, none⟩ = some (.int .u32 b.d1) ∧ w'.cell? ⟨w3.heap.size + 1, 2, none⟩ = some (.int .u32 b.d2) ∧ w'.cell? ⟨w3.heap.size + 1, 3, none⟩ = some (.int .u32 b.d3) ∧ w'.cell? ⟨w3.heap.size + 1 + 1, 0, none⟩ = some (.int .u32 c.d0) ∧ w'.cell? ⟨w3.heap.size + 1 + 1, 1, none⟩ = some (.int .u32 c.d1) ∧ w'.cell? ⟨w3.heap.size + 1 + 1, 2, none⟩ = some (.int .u32 c.d2) ∧ w'.cell? ⟨w3.heap.size + 1 + 1, 3, none⟩ = some (.int .u32 c.d3))
    (first | ((with_reducible refine keep3a ?_); assumption) | ((with_reducible refine keep3b hA11 ?_); assumption) | ((with_reducible refine keep3b hA10 ?_); assumption) | ((with_reducible refine keep3b hA9 ?_); assumption) | ((with_reducible refine keep3b hA8 ?_); assumption) | ((with_reducible refine keep3b hA7 ?_); assumption) | (with_reducible exact HS0.out))
    (first
      | (go_at_call 11; (with_reducible refine (croot_val [a, b, c] (croot_any _ (by simp) hl) r _ 0 3 3 _ hLd rfl (Nat.le_refl _) hm3 hTd HR.out).mono ?_); rintro e w7 ⟨rfl, hA7⟩; have hB8 := hBd.trans (hA7.mono hBd.size); have hp7 := hpd.on1 hA7; have hq7 := hqd.on1 hA7)
      | (go_at_call 24; (with_reducible refine (rpair_val a b ab _ hao hbo HAB.out).mono ?_); rintro e w8 ⟨rfl, hA8⟩; have hB9 := hB8.trans (hA8.mono hB8.size); have hp8 := hp7.on1 hA8; have hq8 := hq7.on1 hA8)
      | (go_at_call 24; (with_reducible refine (rpair_val ab c r _ habo hco HPR.out).mono ?_); rintro e w9 ⟨rfl, hA9⟩; have hB10 := hB9.trans (hA9.mono hB9.size); have hp9 := hp8.on1 hA9; have hq9 := hq8.on1 hA9)
      | (go_at_call 15; (with_reducible refine (rsame_yes [b, c] p2 _ 2 2 c2 2 _ rfl rfl (hq10.on1 ((Below.refl _ _).alloc (Nat.le_refl _) _)) (rds2 b c w10) hq1 hq2 (Nat.le_refl _) hm2).mono ?_); rintro e w11 ⟨rfl, hA11⟩; have hB12 := (hB11.alloc hB11.size (.cells #[.int .u32 b.d0, .int .u32 b.d1, .int .u32 b.d2, .int .u32 b.d3, .int .u32 c.d0, .int .u32 c.d1, .int .u32 c.d2, .int .u32 c.d3] 26)).trans (hA11.mono (by have := hB11.size; simp; omega)))
      | (go_at_call 15; (with_reducible refine (rsame_yes [a, c] p1 _ 2 2 c1 2 _ rfl rfl (hp9.on1 ((Below.refl _ _).alloc (Nat.le_refl _) _)) (rds2 a c w9) hp1 hp2 (Nat.le_refl _) hm2).mono ?_); rintro e w10 ⟨rfl, hA10⟩; have hB11 := (hB10.alloc hB10.size (.cells #[.int .u32 a.d0, .int .u32 a.d1, .int .u32 a.d2, .int .u32 a.d3, .int .u32 c.d0, .int .u32 c.d1, .int .u32 c.d2, .int .u32 c.d3] 26)).trans (hA10.mono (by have := hB10.size; simp; omega)); have hq10 := (hq9.on1 ((Below.refl _ _).alloc (Nat.le_refl _) (.cells #[.int .u32 a.d0, .int .u32 a.d1, .int .u32 a.d2, .int .u32 a.d3, .int .u32 c.d0, .int .u32 c.d1, .int .u32 c.d2, .int .u32 c.d3] 26))).on1 hA10))
  all_goals
    go_wp2
    go_ret
    exact ⟨rfl, hB12⟩
end Go.Proofs.YtnimbclnhgbdcaaDoor
