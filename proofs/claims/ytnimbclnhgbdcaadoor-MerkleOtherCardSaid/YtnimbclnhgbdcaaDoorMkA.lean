/-
  Lists of digests in memory; the document's Half and Root.
-/
import Derived.Test.YtnimbclnhgbdcaaDoorDgC2
import Derived.Test.YtnimbclnhgbdcaaDoorMkP
namespace Go.Proofs.YtnimbclnhgbdcaaDoor
open Go.RowKit

instance : DecidableEq D4 := fun a b => if h : sameD a b = true then isTrue ((sameD_iff a b).mp h) else isFalse fun e => h ((sameD_iff a b).mpr e)
/-- The root of a list of digests. -/
def noneD : D4 := ofD []
def rootD (l : List D4) : D4 := root pairS noneD l
def allD4 (l : List D4) : Prop := ∀ d ∈ l, d.ok
theorem noneD_ok : noneD.ok := ofD_ok [] (by decide)
theorem allD4.take {l : List D4} (h : allD4 l) (k : Nat) : allD4 (l.take k) := fun d hd => h d (List.mem_of_mem_take hd)
theorem allD4.drop {l : List D4} (h : allD4 l) (k : Nat) : allD4 (l.drop k) := fun d hd => h d (List.mem_of_mem_drop hd)
theorem rootD_ok : ∀ (n : Nat) (l : List D4), l.length = n → allD4 l → (rootD l).ok := by
  intro n
  induction n using Nat.strongRecOn with
  | _ n ih =>
    intro l hn h
    match l, hn, h with
    | [], _, _ => rw [rootD, root_nil]; exact noneD_ok
    | [a], _, h => rw [rootD, root_one]; exact h a (by simp)
    | a :: b :: r, hn, h =>
      have h2 : 2 ≤ (a :: b :: r).length := by simp
      have hl := half_lt h2
      have hp := half_pos (a :: b :: r).length
      rw [rootD, root_more pairS noneD _ h2]
      exact pairS_ok (ih _ (by rw [← hn]; exact hl) ((a :: b :: r).take (half (a :: b :: r).length)) (by rw [List.length_take]; omega) (h.take _)) (ih ((a :: b :: r).length - half (a :: b :: r).length) (by rw [← hn]; omega) ((a :: b :: r).drop (half (a :: b :: r).length)) (by rw [List.length_drop]) (h.drop _))

/-- The slice v reads as these digests, four cells each. -/
def dgAt (w : World) (b o : Nat) (d : D4) : Prop := w.cell? ⟨b, o, none⟩ = some (.int .u32 d.d0) ∧ w.cell? ⟨b, o + 1, none⟩ = some (.int .u32 d.d1) ∧ w.cell? ⟨b, o + 2, none⟩ = some (.int .u32 d.d2) ∧ w.cell? ⟨b, o + 3, none⟩ = some (.int .u32 d.d3)
def RdL (w : World) (b o : Nat) (l : List D4) : Prop := b < w.heap.size ∧ ∀ i, i < l.length → dgAt w b (o + i * 4) (l.getD i zeroD)
theorem dgAt.on {w w' : World} {b o : Nat} {d : D4} (h : dgAt w b o d) (hB : Below w.heap.size w w') (hb : b < w.heap.size) : dgAt w' b o d := by
  obtain ⟨h0, h1, h2, h3⟩ := h
  exact ⟨by rw [hB.cell (p := ⟨b, _, none⟩) hb]; exact h0, by rw [hB.cell (p := ⟨b, _, none⟩) hb]; exact h1, by rw [hB.cell (p := ⟨b, _, none⟩) hb]; exact h2, by rw [hB.cell (p := ⟨b, _, none⟩) hb]; exact h3⟩
theorem RdL.on {w w' : World} {b o : Nat} {l : List D4} (h : RdL w b o l) (hB : Below w.heap.size w w') : RdL w' b o l :=
  ⟨Nat.lt_of_lt_of_le h.1 hB.size, fun i hi => (h.2 i hi).on hB h.1⟩
theorem RdL.take {w : World} {b o : Nat} {l : List D4} (h : RdL w b o l) (k : Nat) : RdL w b o (l.take k) :=
  ⟨h.1, fun i hi => by
    rw [List.length_take] at hi
    have := h.2 i (by omega)
    simp only [List.getD, List.getElem?_take, if_pos (show i < k by omega)]
    exact this⟩
theorem RdL.drop {w : World} {b o : Nat} {l : List D4} (h : RdL w b o l) (k : Nat) : RdL w b (o + k * 4) (l.drop k) :=
  ⟨h.1, fun i hi => by
    rw [List.length_drop] at hi
    have := h.2 (k + i) (by omega)
    simp only [List.getD, List.getElem?_drop]
    rw [show o + k * 4 + i * 4 = o + (k + i) * 4 by omega]
    exact this⟩

theorem half_small {n : Nat} (h : n ≤ 1) : half n = 1 := by
  unfold half
  rw [show n - 1 = 0 by omega]; rfl
set_option maxHeartbeats 1000000 in
set_option maxRecDepth 100000 in
theorem half_any (n : Nat) (w : World) (hn : n ≤ 1000000) : Calls Tryd.prog 32 #[.int .i64 (n : Int)] w fun e w' => e = .returned (.int .i64 (half n : Nat)) ∧ w = w' := by
  have hn1 : (n : Int) ≤ 1000000 := by omega
  go_enter Tryd.func32, Tryd.ntmps32
  go_wp2
  go_loop [3] (fun v => ∃ (a k : Nat), v = .int .i64 (k : Int) ∧ Hid (k = 2 ^ a) ∧ 1 ≤ k ∧ (k = 1 ∨ k < n)) (fun v => n + 1 - (intOf v).toNat)
  case atStart => exact ⟨0, 1, rfl, rfl, Nat.le_refl _, Or.inl rfl⟩
  case round =>
    obtain ⟨a, k, rfl, HK, hk1, hkn⟩ := hrel
    have hkb : (k : Int) ≤ 1000000 := by omega
    by_cases hlt : 2 * k < n
    · have hd : decide (2 * (k : Int) < (n : Int)) = true := by simp; omega
      clear hkn
      go_wp2
      go_round
      case rel => exact ⟨a + 1, 2 * k, by go_num, by show 2 * k = _; rw [Nat.pow_succ, HK.out, Nat.mul_comm], by omega, by omega⟩
      case measure => simp [intOf]; omega
    · have hd : decide (2 * (k : Int) < (n : Int)) = false := by simp; omega
      have hd2 : (n : Int) ≤ 2 * (k : Int) := by omega
      have HH : Hid (half n = k) := by
        show half n = k
        by_cases q : n ≤ 1
        · rw [half_small q]; omega
        · rw [HK.out]
          exact half_of (by rw [← HK.out]; omega) (by rw [Nat.pow_succ, ← HK.out]; omega)
      clear hkn
      go_wp2
      go_ret
      exact ⟨by rw [HH.out]; rfl, rfl⟩

theorem rpair_val (a b y : D4) (w : World) (ha : a.ok) (hb : b.ok) (hy : pairS a b = y) : Calls Tryd.prog 24 #[.agg #[.int .u32 a.d0, .int .u32 a.d1, .int .u32 a.d2, .int .u32 a.d3], .agg #[.int .u32 b.d0, .int .u32 b.d1, .int .u32 b.d2, .int .u32 b.d3]] w fun e w' => e = .returned (.agg #[.int .u32 y.d0, .int .u32 y.d1, .int .u32 y.d2, .int .u32 y.d3]) ∧ Below w.heap.size w w' := by
  subst hy; exact rpair_any a b w ha hb
theorem half_val (n k : Nat) (w : World) (hn : n ≤ 1000000) (hk : half n = k) : Calls Tryd.prog 32 #[.int .i64 (n : Int)] w fun e w' => e = .returned (.int .i64 (k : Int)) ∧ w = w' := by
  subst hk; exact half_any n w hn
theorem rof_none (y : D4) (w : World) (hy : noneD = y) : Calls Tryd.prog 26 #[.string ⟨#[]⟩] w fun e w' => e = .returned (.agg #[.int .u32 y.d0, .int .u32 y.d1, .int .u32 y.d2, .int .u32 y.d3]) ∧ Below w.heap.size w w' := by
  subst hy; exact rof_any ⟨#[]⟩ w (by decide)

/-- What the document's Root answers, of a list that lies in memory. -/
def RootC (l : List D4) : Prop := ∀ (p : Option Addr) (cap : Nat) (w : World), (l ≠ [] → ∃ b o, p = some ⟨b, o, none⟩ ∧ RdL w b o l) → l.length ≤ cap → cap ≤ maxLen →
  Calls Tryd.prog 14 #[.slice p l.length cap] w fun e w' => e = .returned (rootD l).val ∧ Below w.heap.size w w'
set_option maxHeartbeats 2000000 in
set_option maxRecDepth 100000 in
theorem root_c0 : RootC [] := by
  intro p cap w _ _ hm
  obtain ⟨y, hy⟩ : ∃ y, noneD = y := ⟨_, rfl⟩
  have HY := Lib.hid hy
  have HE : Hid (rootD [] = y) := by show _ = _; rw [rootD, root_nil, hy]
  clear hy
  unfold maxLen at hm
  obtain ⟨w0, hw0⟩ : ∃ w0, w.alloc (.cells #[.int .u32 0, .int .u32 0, .int .u32 0, .int .u32 0] 26) = w0 := ⟨_, rfl⟩
  obtain ⟨hR, hB⟩ := start4 w w0 hw0
  go_enter Tryd.func14, Tryd.ntmps14
  go_wp2_with fail
  clear hw0
  refine (rof_none y w0 HY.out).mono ?_
  rintro e w1 ⟨rfl, hC⟩
  have hR1 := hR.on hC
  have hB1 := hB.trans (hC.mono hB.size)
  clear hR hB hC
  obtain ⟨k0, k1, k2, k3⟩ := Arr.c4 (d := zeroD) hR1
  obtain ⟨f0, f1, f2, f3⟩ := hR1.f4
  have hRf := put4 (d := y) hR1 rfl
  have hBf := below_put4 hB1 (Nat.le_refl _) y
  clear hR1 hB1
  go_wp2_with fail
  generalize (((w1.setCell ⟨w.heap.size, 0, none⟩ (.int .u32 y.d0)).setCell ⟨w.heap.size, 1, none⟩ (.int .u32 y.d1)).setCell ⟨w.heap.size, 2, none⟩ (.int .u32 y.d2)).setCell ⟨w.heap.size, 3, none⟩ (.int .u32 y.d3) = wf at *
  obtain ⟨r0, r1, r2, r3⟩ := hRf.c4
  refine bodyPost_ret (v := y.val) (by simp [results, Tryd.results14, go_sem, D4.val, r0, r1, r2, r3]) rfl ⟨by rw [HE.out], hBf⟩
set_option maxHeartbeats 2000000 in
set_option maxRecDepth 100000 in
theorem root_c1 (a : D4) : RootC [a] := by
  intro p cap w hp _ hm
  obtain ⟨b, o, rfl, hr⟩ := hp (by simp)
  have HE : Hid (rootD [a] = a) := by show _ = _; rw [rootD, root_one]
  unfold maxLen at hm
  obtain ⟨w0, hw0⟩ : ∃ w0, w.alloc (.cells #[.int .u32 0, .int .u32 0, .int .u32 0, .int .u32 0] 26) = w0 := ⟨_, rfl⟩
  obtain ⟨hR, hB⟩ := start4 w w0 hw0
  have hr0 := hr.on hB
  obtain ⟨c0, c1, c2, c3⟩ := hr0.2 0 (by simp)
  simp only [Nat.zero_mul, Nat.add_zero, List.getD_cons_zero] at c0 c1 c2 c3
  obtain ⟨k0, k1, k2, k3⟩ := Arr.c4 (d := zeroD) hR
  obtain ⟨f0, f1, f2, f3⟩ := hR.f4
  have hRf := put4 (d := a) hR rfl
  have hBf := below_put4 hB (Nat.le_refl _) a
  clear hR hB hr hr0
  go_enter Tryd.func14, Tryd.ntmps14
  go_wp2_with fail
  clear hw0
  generalize (((w0.setCell ⟨w.heap.size, 0, none⟩ (.int .u32 a.d0)).setCell ⟨w.heap.size, 1, none⟩ (.int .u32 a.d1)).setCell ⟨w.heap.size, 2, none⟩ (.int .u32 a.d2)).setCell ⟨w.heap.size, 3, none⟩ (.int .u32 a.d3) = wf at *
  obtain ⟨r0, r1, r2, r3⟩ := hRf.c4
  refine bodyPost_ret (v := a.val) (by simp [results, Tryd.results14, go_sem, D4.val, r0, r1, r2, r3]) rfl ⟨by rw [HE.out], hBf⟩
end Go.Proofs.YtnimbclnhgbdcaaDoor
