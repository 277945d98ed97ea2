/-
  Rows of digests that a call made and fills, one place at a time; the code's Public and Sign.
-/
import Derived.Test.YtkgkmpelclmllaaDoorOtB
import Derived.Test.YtkgkmpelclmllaaDoorOtD
namespace Go.Proofs.YtkgkmpelclmllaaDoor
open Go.RowKit

theorem dCells_set : ∀ (l : List D4) (i : Nat) (d : D4), i < l.length → ((((dCells l).set (i * 4) (.int .u32 d.d0)).set (i * 4 + 1) (.int .u32 d.d1)).set (i * 4 + 2) (.int .u32 d.d2)).set (i * 4 + 3) (.int .u32 d.d3) = dCells (l.set i d)
  | [], i, d, h => absurd h (by simp)
  | _ :: r, 0, d, _ => rfl
  | a :: r, i + 1, d, h => by
    have := dCells_set r i d (by simpa using h)
    rw [show (i + 1) * 4 = i * 4 + 4 by omega]
    show _ = (.int .u32 a.d0 :: .int .u32 a.d1 :: .int .u32 a.d2 :: .int .u32 a.d3 :: dCells (r.set i d))
    rw [← this]
    rfl
theorem OwnsD.at {B g n cap : Nat} {l : List D4} {w : World} (h : OwnsD B (.slice (some ⟨g, 0, none⟩) n cap) l w) (hn : l.length = n) {i : Nat} (hi : i < l.length) : dgAt w g (i * 4) (l.getD i zeroD) := by
  subst hn
  obtain ⟨a0, a1, a2, a3⟩ := dCells_at l i hi
  exact ⟨by rw [World.ownsRow.cellAt h _ (by omega)]; exact a0, by rw [World.ownsRow.cellAt h _ (by omega)]; exact a1, by rw [World.ownsRow.cellAt h _ (by omega)]; exact a2, by rw [World.ownsRow.cellAt h _ (by omega)]; exact a3⟩
theorem OwnsD.fz {B g n cap : Nat} {l : List D4} {w : World} (h : OwnsD B (.slice (some ⟨g, 0, none⟩) n cap) l w) (hn : l.length = n) (j : Nat) : w.frozen? ⟨g, j, none⟩ = false := by
  subst hn
  exact World.ownsRow.frozenAt h j
theorem OwnsD.put {B g n cap : Nat} {l : List D4} {w : World} (h : OwnsD B (.slice (some ⟨g, 0, none⟩) n cap) l w) (hn : l.length = n) {i : Nat} (hi : i < l.length) (d : D4) :
    OwnsD B (.slice (some ⟨g, 0, none⟩) n cap) (l.set i d) ((((w.setCell ⟨g, i * 4, none⟩ (.int .u32 d.d0)).setCell ⟨g, i * 4 + 1, none⟩ (.int .u32 d.d1)).setCell ⟨g, i * 4 + 2, none⟩ (.int .u32 d.d2)).setCell ⟨g, i * 4 + 3, none⟩ (.int .u32 d.d3)) := by
  subst hn
  have h1 := (World.ownsRow.stored h (i * 4) (.int .u32 d.d0)).1
  have h2 := (World.ownsRow.stored h1 (i * 4 + 1) (.int .u32 d.d1)).1
  have h3 := (World.ownsRow.stored h2 (i * 4 + 2) (.int .u32 d.d2)).1
  have h4 := (World.ownsRow.stored h3 (i * 4 + 3) (.int .u32 d.d3)).1
  rw [dCells_set l i d hi] at h4
  unfold OwnsD
  rw [List.length_set]
  exact h4
theorem OwnsD.reads {B g n cap : Nat} {l : List D4} {w : World} (h : OwnsD B (.slice (some ⟨g, 0, none⟩) n cap) l w) (hn : l.length = n) (_hp : 0 < n) : RdL w g 0 l :=
  ⟨(World.ownsRow.lt h g rfl).2, fun i hi => by have := h.at hn hi; rw [Nat.zero_add]; exact this⟩
theorem below_row4 {B b j : Nat} {w w' : World} (h : Below B w w') (hb : B ≤ b) (d : D4) : Below B w ((((w'.setCell ⟨b, j, none⟩ (.int .u32 d.d0)).setCell ⟨b, j + 1, none⟩ (.int .u32 d.d1)).setCell ⟨b, j + 2, none⟩ (.int .u32 d.d2)).setCell ⟨b, j + 3, none⟩ (.int .u32 d.d3)) :=
  (((h.setCell (p := ⟨b, j, none⟩) hb _).setCell (p := ⟨b, j + 1, none⟩) hb _).setCell (p := ⟨b, j + 2, none⟩) hb _).setCell (p := ⟨b, j + 3, none⟩) hb _
/-- n places, the first k of them filled. -/
def fillR (f : Nat → D4) (n k : Nat) : List D4 := (List.range n).map fun t => if t < k then f t else zeroD
theorem fillR_len (f : Nat → D4) (n k : Nat) : (fillR f n k).length = n := by simp [fillR]
theorem fillR_full (f : Nat → D4) (n : Nat) : fillR f n n = mapR f n := by
  simp only [fillR, mapR]
  exact List.map_congr_left fun i hi => by simp [List.mem_range.mp hi]
theorem fillR_step (f : Nat → D4) (n k : Nat) : (fillR f n k).set k (f k) = fillR f n (k + 1) := by
  refine List.ext_getElem (by simp [fillR]) fun i h1 h2 => ?_
  simp only [fillR, List.getElem_set, List.getElem_map, List.getElem_range]
  by_cases e : k = i
  · subst e; simp
  · rw [if_neg e]
    by_cases q : i < k
    · rw [if_pos q, if_pos (by omega)]
    · rw [if_neg q, if_neg (by omega)]
theorem fillR_none (f : Nat → D4) (n : Nat) : fillR f n 0 = List.replicate n zeroD := by
  refine List.ext_getElem (by simp [fillR]) fun i h1 h2 => ?_
  simp [fillR]
theorem made35 (f : Nat → D4) : (madeCells (Value.agg #[.int .u32 0, .int .u32 0, .int .u32 0, .int .u32 0]).cells (35 * 4)).toList = dCells (fillR f 35 0) := by
  rw [fillR_none]; kernel_rfl
/-- A value boxed, and room for the result. -/
theorem start46 (x : D4) (w w0 : World) (h : (w.alloc (.cells #[.int .u32 x.d0, .int .u32 x.d1, .int .u32 x.d2, .int .u32 x.d3] 24)).alloc (.cells #[.int .u32 0, .int .u32 0, .int .u32 0, .int .u32 0] 24) = w0) :
    Arr .u32 24 w.heap.size x.toL w0 ∧ Arr .u32 24 (w.heap.size + 1) [0, 0, 0, 0] w0 ∧ Below w.heap.size w w0 := by
  subst h
  obtain ⟨w1, h1⟩ : ∃ w1, w.alloc (.cells #[.int .u32 x.d0, .int .u32 x.d1, .int .u32 x.d2, .int .u32 x.d3] 24) = w1 := ⟨_, rfl⟩
  have hA1 : Arr .u32 24 w.heap.size x.toL w1 := by rw [← h1]; exact heap_alloc_new w _
  have a1 : w1.heap.size = w.heap.size + 1 := by rw [← h1]; simp
  have B1 : Below w.heap.size w w1 := by rw [← h1]; exact (Below.refl _ _).alloc (Nat.le_refl _) _
  rw [h1]
  refine ⟨hA1.al _, ?_, B1.alloc (by omega) _⟩
  rw [← a1]
  exact heap_alloc_new w1 _
theorem cwalk_val (B b n : Nat) (m : Int) (x y : D4) (w : World) (hx : x.ok) (hA : Arr .u32 24 b x.toL w) (hb : B ≤ b) (hT : TurnsOk w) (hg : 0 < B) (hn : n ≤ 1000) (hm : (n : Int) = m) (hy : walkD x n = y) :
    Calls Tryd.prog 36 #[.int .i64 m, .pointer (some ⟨b, 0, none⟩)] w fun e w' => e = .returned (.agg #[.int .u32 y.d0, .int .u32 y.d1, .int .u32 y.d2, .int .u32 y.d3]) ∧ Below B w w' := by
  subst hm; subst hy; exact cwalk_any B b n x w hx hA hb hT hg hn

set_option maxHeartbeats 2000000 in
set_option maxRecDepth 100000 in
theorem cpub_any (seed v : D4) (w : World) (hs : seed.ok) (hT : TurnsOk w) (hv : publicD seed = v) :
    Calls Tryd.prog 14 #[.agg #[.int .u32 seed.d0, .int .u32 seed.d1, .int .u32 seed.d2, .int .u32 seed.d3]] w fun e w' => e = .returned v.val ∧ Below w.heap.size w w' := by
  obtain ⟨i0, hinf, hz0, hz1, hz2⟩ := info_parts info_dg
  obtain ⟨f, hf⟩ : ∃ f, (fun i => walkD (beginD seed i) 15) = f := ⟨_, rfl⟩
  have HV : Hid (endsD (mapR f 35) = v) := by show _ = _; rw [← hv, publicD, hf]
  have HF : Hid (∀ i, f i = walkD (beginD seed i) 15) := fun i => by rw [← hf]
  obtain ⟨w0, hw0⟩ : ∃ w0, (w.alloc (.cells #[.int .u32 seed.d0, .int .u32 seed.d1, .int .u32 seed.d2, .int .u32 seed.d3] 24)).alloc (.cells #[.int .u32 0, .int .u32 0, .int .u32 0, .int .u32 0] 24) = w0 := ⟨_, rfl⟩
  obtain ⟨hS0, hR0, hB0⟩ := start46 seed w w0 hw0
  have hT0 := hT.below hB0
  have hs1 := hS0.lt
  have hs2 := hR0.lt
  have hgT : 0 < w0.heap.size := tab_low hT0 gTrn
  clear hv hf hT
  go_enter Tryd.func14, Tryd.ntmps14
  go_wp2_with (at_make; refine wpList_make_full _ rfl _ _ 32 rfl w0.heap.size 24 i0 (.agg #[.int .u32 0, .int .u32 0, .int .u32 0, .int .u32 0]) 4 Tryd.underlying32 hinf hz0 hz1 .i64 .i64 _ _ 35 rfl rfl rfl rfl (by rw [hz2]; omega) (by unfold maxLen; omega) (Nat.le_refl _) ?_; intro w1 hown1 hg1)
  rw [made35 f] at hown1
  have hO1 : OwnsD w0.heap.size (.slice (some ⟨w0.heap.size, 0, none⟩) 35 35) (fillR f 35 0) w1 := by unfold OwnsD; rw [fillR_len]; exact hown1
  have hC1 : Below w0.heap.size w0 w1 := (Below.refl _ _).grown hg1 (Nat.le_refl _) (fun k hk => by cases hk)
  clear hown1 hg1 hw0
  go_loopw [8] (fun i wr => ∃ k : Nat, k ≤ 35 ∧ i = .int .i64 (k : Int) ∧ OwnsD w0.heap.size (.slice (some ⟨w0.heap.size, 0, none⟩) 35 35) (fillR f 35 k) wr ∧ Below w0.heap.size w0 wr) (fun i _ => 35 - (intOf i).toNat)
  case atStart => exact ⟨0, Nat.zero_le _, rfl, hO1, hC1⟩
  case round =>
    clear hO1 hC1
    obtain ⟨k, hk, rfl, hO, hC⟩ := hrel
    have hS := hS0.thr hC hs1
    have hTr := turns_far hT0 hgT hC
    obtain ⟨l0, l1, l2, l3⟩ := Arr.c4 hS
    by_cases hlt : k < 35
    · have hkd : decide ((k : Int) < 35) = true := by simp; omega
      have hk0 : (0 : Int) ≤ (k : Int) := by omega
      have hk1 : (k : Int) < 35 := by omega
      obtain ⟨z, hz⟩ : ∃ z, beginD seed k = z := ⟨_, rfl⟩
      have hzo : z.ok := by rw [← hz]; exact beginD_ok hs (by omega)
      obtain ⟨y, hy⟩ : ∃ y, walkD z 15 = y := ⟨_, rfl⟩
      have HY : Hid (f k = y) := by show _ = _; rw [HF.out k, hz, hy]
      have HZ0 := Lib.hid hz
      have HY0 := Lib.hid hy
      have HZO := Lib.hid hzo
      clear hz hy hzo
      go_wp2_with fail
      refine (cchain_any seed z k wr hs (by omega) hTr HZ0.out).mono ?_
      rintro e w1 ⟨b, rfl, hb, hA, hD⟩
      have hT1 := hTr.below hD
      have hgw : 0 < wr.heap.size := tab_low hTr gTrn
      unfold walker
      go_wp2_with fail
      refine (cwalk_val wr.heap.size b 15 15 z y w1 HZO.out hA hb hT1 hgw (by omega) rfl HY0.out).mono ?_
      rintro e w2 ⟨rfl, hE⟩
      have hD2 := hD.trans hE
      have hO2 := hO.on hD2
      have hC2 := hC.trans (hD2.mono hC.size)
      have hfl := fillR_len f 35 k
      clear hS hTr hA hD hT1 hE hO hC hD2 l0 l1 l2 l3
      obtain ⟨c0, c1, c2, c3⟩ := hO2.at hfl (i := k) (by omega)
      have f0 := hO2.fz hfl (k * 4)
      have f1 := hO2.fz hfl (k * 4 + 1)
      have f2 := hO2.fz hfl (k * 4 + 2)
      have f3 := hO2.fz hfl (k * 4 + 3)
      have hO3 := hO2.put hfl (i := k) (by omega) y
      have hC3 := below_row4 (j := k * 4) hC2 (Nat.le_refl _) y
      rw [← HY.out, fillR_step f 35 k, HY.out] at hO3
      clear hO2 hC2
      go_wp2_with fail
      generalize (((w2.setCell ⟨w0.heap.size, k * 4, none⟩ (.int .u32 y.d0)).setCell ⟨w0.heap.size, k * 4 + 1, none⟩ (.int .u32 y.d1)).setCell ⟨w0.heap.size, k * 4 + 2, none⟩ (.int .u32 y.d2)).setCell ⟨w0.heap.size, k * 4 + 3, none⟩ (.int .u32 y.d3) = w3 at *
      go_roundw
      case rel => exact ⟨k + 1, by omega, by go_num, hO3, hC3⟩
      case measure => simp [intOf]; omega
    · have hk35 : k = 35 := by omega
      subst hk35
      rw [fillR_full] at hO
      have hR := hR0.thr hC hs2
      have hB := hB0.trans (hC.mono hB0.size)
      have hml := mapR_len f 35
      have hrd := hO.reads hml (by omega)
      have hok : allD4 (mapR f 35) := mapR_ok fun i _ => by rw [HF.out i]; exact walkD_ok (beginD_ok hs (by omega)) _
      have HOK := Lib.hid hok
      have HML := Lib.hid hml
      clear hO hS hC l0 l1 l2 l3 hok hml
      go_wp2_with fail
      refine (cpublic_any (mapR f 35) v w0.heap.size 0 35 35 wr HOK.out HML.out (by omega) hrd (by omega) (by unfold maxLen; omega) hTr HV.out).mono ?_
      rintro e w2 ⟨rfl, hE⟩
      have hR2 := hR.on hE
      have hB2 := hB.trans (hE.mono hB.size)
      obtain ⟨b0, b1, b2, b3⟩ := Arr.c4 (d := zeroD) hR2
      obtain ⟨f0, f1, f2, f3⟩ := hR2.f4
      have hRf := put4 (d := v) hR2 rfl
      have hBf := below_put4 hB2 (show w.heap.size ≤ w.heap.size + 1 by omega) v
      clear hR hB hR2 hB2 hE hrd
      simp only [D4.val]
      go_wp2_with fail
      generalize (((w2.setCell ⟨w.heap.size + 1, 0, none⟩ (.int .u32 v.d0)).setCell ⟨w.heap.size + 1, 1, none⟩ (.int .u32 v.d1)).setCell ⟨w.heap.size + 1, 2, none⟩ (.int .u32 v.d2)).setCell ⟨w.heap.size + 1, 3, none⟩ (.int .u32 v.d3) = wf at *
      obtain ⟨r0, r1, r2, r3⟩ := hRf.c4
      refine bodyPost_ret (v := v.val) (by simp [results, Tryd.results14, go_sem, D4.val, r0, r1, r2, r3]) rfl ⟨rfl, hBf⟩
end Go.Proofs.YtkgkmpelclmllaaDoor
