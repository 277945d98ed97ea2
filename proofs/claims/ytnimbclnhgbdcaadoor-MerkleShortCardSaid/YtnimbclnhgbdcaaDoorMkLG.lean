/-
  The walk of MerkleShort (written by gen_law4.py).
-/
import Derived.Test.YtnimbclnhgbdcaaDoorMkL
namespace Go.Proofs.YtnimbclnhgbdcaaDoor
open Go.RowKit

/-- A row of n digests, whatever they are. -/
def anyRow (g n : Nat) (w : World) : Prop := ∃ cs : Array Value, w.heap[g]? = some (.cells cs 26 (0, 0)) ∧ cs.size = n * 4 ∧ ∀ j, j < n * 4 → ∃ z, cs[j]? = some (.int .u32 z) ∧ isW z
theorem anyRow.made {n B : Nat} {v : Value} {g : Nat} {w : World} (hv : v = .slice (some ⟨g, 0, none⟩) n n) (h : w.ownsRow B 26 4 v n (madeCells (Value.agg #[.int .u32 0, .int .u32 0, .int .u32 0, .int .u32 0]).cells (n * 4)).toList) (hn : 0 < n) : anyRow g n w := by
  obtain ⟨_, h2⟩ := h
  rcases h2 with ⟨_, h0⟩ | ⟨g', cap, cur, hv', _, hg, _, _, hs, ht⟩
  · omega
  · rw [hv] at hv'
    injection hv' with e1 e2 e3
    injection e1 with e1
    injection e1 with e1 _ _
    subst e1; subst e3
    refine ⟨cur, hg, hs, fun j hj => ⟨0, ?_, by unfold isW; omega⟩⟩
    have hc : cur.toList = (madeCells (Value.agg #[.int .u32 0, .int .u32 0, .int .u32 0, .int .u32 0]).cells (n * 4)).toList := by
      rw [← ht, List.take_of_length_le (by rw [Array.length_toList]; omega)]
    have : cur = madeCells (Value.agg #[.int .u32 0, .int .u32 0, .int .u32 0, .int .u32 0]).cells (n * 4) := Array.ext' hc
    rw [this]
    have hq : j % 4 < 4 := Nat.mod_lt _ (by omega)
    unfold madeCells
    rw [Array.getElem?_map, Array.getElem?_range, if_pos hj]
    show some ((#[Value.int .u32 0, .int .u32 0, .int .u32 0, .int .u32 0] : Array Value)[j % 4]!) = _
    generalize j % 4 = q at hq
    match q, hq with
    | 0, _ => rfl
    | 1, _ => rfl
    | 2, _ => rfl
    | 3, _ => rfl
theorem anyRow.set {g n : Nat} {w : World} (h : anyRow g n w) (j : Nat) {z : Int} (hz : isW z) : anyRow g n (w.setCell ⟨g, j, none⟩ (.int .u32 z)) := by
  obtain ⟨cs, hg, hs, hc⟩ := h
  refine ⟨cs.setIfInBounds j (.int .u32 z), heap_setCell_same w g j cs 26 _ hg, by simp [hs], fun i hi => ?_⟩
  by_cases e : j = i
  · subst e
    exact ⟨z, by rw [Array.getElem?_setIfInBounds_self_of_lt (by omega)], hz⟩
  · obtain ⟨y, hy, hw⟩ := hc i hi
    exact ⟨y, by rw [Array.getElem?_setIfInBounds_ne e]; exact hy, hw⟩
theorem anyRow.far {g n : Nat} {w : World} (h : anyRow g n w) {a : Addr} (hne : g ≠ a.block) (v : Value) : anyRow g n (w.setCell a v) := by
  obtain ⟨cs, hg, r⟩ := h
  exact ⟨cs, by rw [Below.heap_setCell _ _ _ _ hne]; exact hg, r⟩
theorem anyRow.on {g n : Nat} {w w' : World} (h : anyRow g n w) (hB : Below w.heap.size w w') : anyRow g n w' := by
  obtain ⟨cs, hg, r⟩ := h
  have hlt : g < w.heap.size := by
    rcases Nat.lt_or_ge g w.heap.size with q | q
    · exact q
    · rw [Array.getElem?_eq_none q] at hg; cases hg
  exact ⟨cs, by rw [hB.block g hlt]; exact hg, r⟩
theorem anyRow.cell {g n : Nat} {w : World} (h : anyRow g n w) (j : Nat) (hj : j < n * 4) : ∃ z, w.cell? ⟨g, j, none⟩ = some (.int .u32 z) ∧ isW z := by
  obtain ⟨cs, hg, _, hc⟩ := h
  obtain ⟨z, hz, hw⟩ := hc j hj
  exact ⟨z, by rw [cell_of_row w g j cs _ _ hg]; exact hz, hw⟩
theorem anyRow.fz {g n : Nat} {w : World} (h : anyRow g n w) (j : Nat) : w.frozen? ⟨g, j, none⟩ = false := by
  obtain ⟨cs, hg, _, _⟩ := h
  exact frozen_of_row w g j cs _ hg
theorem anyRow.lt {g n : Nat} {w : World} (h : anyRow g n w) : g < w.heap.size := by
  obtain ⟨cs, hg, _⟩ := h
  rcases Nat.lt_or_ge g w.heap.size with q | q
  · exact q
  · rw [Array.getElem?_eq_none q] at hg; cases hg
/-- It is a list of digests. -/
theorem anyRow.list {g n : Nat} {w : World} (h : anyRow g n w) : ∃ l : List D4, l.length = n ∧ allD4 l ∧ RdL w g 0 l := by
  have pick : ∀ k, k ≤ n → ∃ l : List D4, l.length = k ∧ allD4 l ∧ ∀ i, i < k → dgAt w g (i * 4) (l.getD i zeroD) := by
    intro k
    induction k with
    | zero => intro _; exact ⟨[], rfl, (fun d hd => by cases hd), fun i hi => absurd hi (Nat.not_lt_zero _)⟩
    | succ k ih =>
      intro hk
      obtain ⟨l, h1, h2, h3⟩ := ih (by omega)
      obtain ⟨a, ha, hao⟩ := h.cell (k * 4) (by omega)
      obtain ⟨b, hb, hbo⟩ := h.cell (k * 4 + 1) (by omega)
      obtain ⟨c, hc, hco⟩ := h.cell (k * 4 + 2) (by omega)
      obtain ⟨d, hd, hdo⟩ := h.cell (k * 4 + 3) (by omega)
      refine ⟨l ++ [⟨a, b, c, d⟩], by simp [h1], fun y hy => ?_, fun i hi => ?_⟩
      · rcases List.mem_append.mp hy with q | q
        · exact h2 y q
        · simp at q; subst q; exact ⟨hao, hbo, hco, hdo⟩
      · by_cases q : i < k
        · have := h3 i q
          rw [List.getD_eq_getElem?_getD] at *
          rw [List.getElem?_append_left (by omega)]
          exact this
        · have : i = k := by omega
          subst this
          rw [List.getD_eq_getElem?_getD, ← h1, List.getElem?_concat_length, h1]
          exact ⟨ha, hb, hc, hd⟩
  obtain ⟨l, h1, h2, h3⟩ := pick n (Nat.le_refl _)
  refine ⟨l, h1, h2, h.lt, fun i hi => ?_⟩
  rw [Nat.zero_add]
  exact h3 i (by omega)
set_option maxHeartbeats 4000000 in
set_option maxRecDepth 100000 in
theorem short_any (d : D4) (n i : Int) (w : World) (hd : d.ok) (hn0 : 0 ≤ n) (hn1 : n ≤ 65535) (hi0 : 0 ≤ i) (hi1 : i ≤ 65535) (hT : TurnsOk w) :
    Calls Tryd.prog 9 #[.agg #[.int .u32 d.d0, .int .u32 d.d1, .int .u32 d.d2, .int .u32 d.d3], .int .u16 n, .int .u16 i] w fun e w' => e = .returned (.bool true) ∧ Below w.heap.size w w' := by
  obtain ⟨w0, hw0⟩ : ∃ w0, w.alloc (.cells #[.int .u32 d.d0, .int .u32 d.d1, .int .u32 d.d2, .int .u32 d.d3] 26) = w0 := ⟨_, rfl⟩
  have hB0 : Below w.heap.size w w0 := by rw [← hw0]; exact (Below.refl _ _).alloc (Nat.le_refl _) _
  have hD0 : Arr .u32 26 w.heap.size d.toL w0 := by rw [← hw0]; exact heap_alloc_new w _
  obtain ⟨N, hN⟩ : ∃ N : Nat, 1 + n % 1000 = (N : Int) := ⟨(1 + n % 1000).toNat, by omega⟩
  have hN1 : 1 ≤ N := by omega
  have hN2 : N ≤ 1000 := by omega
  have hcn : IntKind.i64.wrap n = n := IntWalk.i64_in _ (by omega)
  have hsn : IntKind.i64.wrap (1 + n % 1000) = (N : Int) := by rw [IntWalk.i64_in _ (by omega)]; exact hN
  obtain ⟨i0, hinf, hz0, hz1, hz2⟩ := info_parts info_dg
  have HNN := Lib.hid hN
  clear hN
  go_enter Tryd.func9, Tryd.ntmps9
  go_wp2_with fail
  clear hw0
  refine (alive4_any w0 (hT.below hB0)).mono ?_
  rintro e w1 ⟨rfl, hA1⟩
  have hB1 := hB0.trans (hA1.mono hB0.size)
  have hD1 := hD0.on hA1
  obtain ⟨d0, d1, d2, d3⟩ := Arr.c4 hD1
  go_wp2_with (at_make; refine wpList_make_full _ rfl _ _ 22 rfl w1.heap.size 26 i0 _ 4 Tryd.underlying22 hinf hz0 hz1 .i64 .i64 _ _ N rfl rfl rfl rfl (by rw [hz2]; omega) (by unfold maxLen; omega) (Nat.le_refl _) ?_; intro w2 hown hg; have hW2 : Below w1.heap.size w1 w2 := (Below.refl _ w1).grown hg (Nat.le_refl _) (fun k hk => by cases hk); obtain ⟨d0, d1, d2, d3⟩ := Arr.c4 (hD1.on hW2))
  have hq0 : anyRow w1.heap.size N w2 := anyRow.made rfl hown (by omega)
  have hs1 : w1.heap.size < w2.heap.size := hq0.lt
  have hB2 := hB1.trans (hW2.mono hB1.size)
  have hX3 : Arr .u32 26 w2.heap.size [d.d0, d.d1, d.d2, d.d3] (w2.alloc (.cells #[.int .u32 d.d0, .int .u32 d.d1, .int .u32 d.d2, .int .u32 d.d3] 26)) := heap_alloc_new w2 _
  have hq3 := hq0.on ((Below.refl w2.heap.size w2).alloc (Nat.le_refl _) (.cells #[.int .u32 d.d0, .int .u32 d.d1, .int .u32 d.d2, .int .u32 d.d3] 26))
  have hB3 := hB2.alloc hB2.size (.cells #[.int .u32 d.d0, .int .u32 d.d1, .int .u32 d.d2, .int .u32 d.d3] 26)
  have hs0 : w.heap.size ≤ w1.heap.size := hB1.size
  generalize w2.alloc (.cells #[.int .u32 d.d0, .int .u32 d.d1, .int .u32 d.d2, .int .u32 d.d3] 26) = w3 at *
  generalize w2.heap.size = X at *
  generalize w1.heap.size = G at *
  clear hown hg hW2 d0 d1 d2 d3 hq0 hD1 hD0 hA1 hB1 hB0 hB2
  go_loopw [10] (fun v wr => ∃ (k : Nat) (x : Int), k ≤ N ∧ v = .int .i64 (k : Int) ∧ isW x ∧ Arr .u32 26 X [x, d.d1, d.d2, d.d3] wr ∧ anyRow G N wr ∧ Below w.heap.size w wr) (fun v _ => N - (intOf v).toNat)
  case atStart => exact ⟨0, d.d0, Nat.zero_le _, rfl, hd.1, hX3, hq3, hB3⟩
  case round =>
    clear hX3 hq3 hB3
    obtain ⟨k, x, hk, rfl, hx, hX, hQ, hB⟩ := hrel
    by_cases hlt : k < N
    · obtain ⟨y, hy⟩ : ∃ y, IntKind.u32.wrap (x + 1) = y := ⟨_, rfl⟩
      obtain ⟨x0, x1, x2, x3⟩ := Arr.c4 (d := ⟨x, d.d1, d.d2, d.d3⟩) hX
      obtain ⟨f0, f1, f2, f3⟩ := hX.f4
      obtain ⟨z0, c0, _⟩ := hQ.cell (k * 4) (by omega)
      obtain ⟨z1, c1, _⟩ := hQ.cell (k * 4 + 1) (by omega)
      obtain ⟨z2, c2, _⟩ := hQ.cell (k * 4 + 2) (by omega)
      obtain ⟨z3, c3, _⟩ := hQ.cell (k * 4 + 3) (by omega)
      have g0 := hQ.fz (k * 4)
      have g1 := hQ.fz (k * 4 + 1)
      have g2 := hQ.fz (k * 4 + 2)
      have g3 := hQ.fz (k * 4 + 3)
      have n1 : G ≠ X := by omega
      have n2 : X ≠ G := by omega
      have hyw : isW y := by rw [← hy]; simp [IntKind.wrap, IntKind.bits, IntKind.signed, isW]; omega
      have hk0 : (0 : Int) ≤ (k : Int) := by omega
      have hkN : (k : Int) < (N : Int) := by omega
      have hX2 : Arr .u32 26 X [y, d.d1, d.d2, d.d3] (wr.setCell ⟨X, 0, none⟩ (.int .u32 y)) := hX.set 0 y
      have hQ2 : anyRow G N (wr.setCell ⟨X, 0, none⟩ (.int .u32 y)) := hQ.far (a := ⟨X, 0, none⟩) n1 _
      have hB2 : Below w.heap.size w (wr.setCell ⟨X, 0, none⟩ (.int .u32 y)) := hB.setCell (p := ⟨X, 0, none⟩) (show w.heap.size ≤ X by omega) _
      go_wp2_with fail
      go_roundw
      case rel =>
        refine ⟨k + 1, y, by omega, by go_num, hyw, ?_, ?_, ?_⟩
        · exact (((hX2.far (a := ⟨G, k * 4, none⟩) n2 _).far (a := ⟨G, k * 4 + 1, none⟩) n2 _).far (a := ⟨G, k * 4 + 2, none⟩) n2 _).far (a := ⟨G, k * 4 + 3, none⟩) n2 _
        · exact (((hQ2.set (k * 4) hyw).set (k * 4 + 1) hd.2.1).set (k * 4 + 2) hd.2.2.1).set (k * 4 + 3) hd.2.2.2
        · exact (((hB2.setCell (p := ⟨G, k * 4, none⟩) hs0 _).setCell (p := ⟨G, k * 4 + 1, none⟩) hs0 _).setCell (p := ⟨G, k * 4 + 2, none⟩) hs0 _).setCell (p := ⟨G, k * 4 + 3, none⟩) hs0 _
      case measure => simp [intOf]; omega
    · have hkN : k = N := by omega
      subst hkN
      obtain ⟨l, hl, hlo, hrd⟩ := hQ.list
      obtain ⟨A, hA⟩ : ∃ A : Nat, i % (k : Int) = (A : Int) := ⟨(i % (k : Int)).toNat, by have := Int.emod_nonneg i (show (k : Int) ≠ 0 by omega); omega⟩
      have hAk : A < k := by have := Int.emod_lt_of_pos i (show (0 : Int) < (k : Int) by omega); omega
      have hmod : Int.tmod i (k : Int) = (A : Int) := by rw [Int.tmod_eq_emod_of_nonneg hi0]; exact hA
      have hA1 : IntKind.i64.wrap ((A : Int) + 1) = ((A + 1 : Nat) : Int) := by rw [IntWalk.i64_in _ (by omega)]; omega
      have hci : IntKind.i64.wrap i = i := IntWalk.i64_in _ (by omega)
      have hkz : ((k : Int) == 0) = false := by simp; omega
      have hkz2 : (k : Int) ≠ 0 := by omega
      have hT1 := hT.below hB
      have HL := Lib.hid hl
      have hle : l.length ≤ 1000000 := by omega
      obtain ⟨p1, hp1⟩ : ∃ q, wayD l A = q := ⟨_, rfl⟩
      obtain ⟨q1, hq1⟩ : ∃ q, goesD l (A + 1) true = q := ⟨_, rfl⟩
      have hpl : p1.length ≤ 10 := by rw [← hp1]; exact way_len pairS noneD 10 l A (by omega)
      have hql : q1.length ≤ 11 := by rw [← hq1]; exact goes_len pairS noneD 10 l (A + 1) true (by omega) (by omega) (by omega)
      have HP := Lib.hid hp1
      have HQQ := Lib.hid hq1
      have hd1 : decide ((p1.length : Int) ≤ 10) = true := by simp; omega
      have hd2 : decide ((q1.length : Int) ≤ 11) = true := by simp; omega
      clear hl hp1 hq1
      go_wp2_with fail
      refine (cprove_val l p1 A G 0 k k _ wr hle hlo (by rw [HL.out]; omega) hrd HL.out.symm rfl (Nat.le_refl _) (by unfold maxLen; omega) hT1 HP.out).mono ?_
      rintro e w5 ⟨a1, c1, rfl, hc1, hc2, _, hA5⟩
      have hB5 := hB.trans (hA5.mono hB.size)
      go_wp2_with fail
      refine (cproveOn_val l q1 (A + 1) G 0 k k _ w5 hle hlo (by omega) (by rw [HL.out]; omega) (hrd.on hA5) HL.out.symm rfl (Nat.le_refl _) (by unfold maxLen; omega) (hT1.below hA5) HQQ.out).mono ?_
      rintro e w6 ⟨a2, c2, rfl, hc3, hc4, _, hA6⟩
      have hB6 := hB5.trans (hA6.mono hB5.size)
      go_wp2_with fail
      go_ret
      exact ⟨rfl, hB6⟩
end Go.Proofs.YtnimbclnhgbdcaaDoor
