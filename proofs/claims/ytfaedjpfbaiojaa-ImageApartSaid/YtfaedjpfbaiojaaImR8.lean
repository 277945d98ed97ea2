/-
  The code's Read: the walk through the range over a function.
-/
import Derived.Test.YtfaedjpfbaiojaaImP8
namespace Go.Proofs.Ytfaedjpfbaiojaa
open Go.RowKit Go.Shelf

attribute [local go_sem] Oper.semAt_some

/-- The words behind the first two. -/
def tailW (t : ByteArray) (n : Nat) : List Int := (List.range n).map fun j => wAt t.data.toList (j + 2)
theorem cells_zero (n : Nat) : (madeCells (Value.int IntKind.u32 0).cells (n * 1)).toList = rowU n (fun _ => 0) := by
  show (madeCells #[Value.int IntKind.u32 0] (n * 1)).toList = _
  rw [toList_madeCells_one, Nat.mul_one]
  symm
  rw [List.eq_replicate_iff]
  refine ⟨rowU_length _ _, fun u hu => ?_⟩
  unfold rowU at hu
  obtain ⟨t, _, ht⟩ := List.mem_map.mp hu
  rw [← ht]
/-- Is a place among those that have come? -/
def has {m : Nat} (pre : List (Fin m)) (j : Nat) : Bool := pre.any fun k => k.1 == j
theorem has_snoc {m : Nat} (pre : List (Fin m)) (x : Fin m) (j : Nat) : has (pre ++ [x]) j = (has pre j || x.1 == j) := by simp [has]
theorem has_all {m : Nat} (ys : List (Fin m)) (h : ∀ k, k ∈ ys) (j : Nat) (hj : j < m) : has ys j = true := by
  unfold has
  rw [List.any_eq_true]
  exact ⟨⟨j, hj⟩, h _, by simp⟩
theorem has_not {m : Nat} (pre : List (Fin m)) (x : Fin m) (j : Nat) (h : x.1 ≠ j) : has (pre ++ [x]) j = has pre j := by
  rw [has_snoc, beq_eq_false_iff_ne.2 h, Bool.or_false]
theorem has_is {m : Nat} (pre : List (Fin m)) (x : Fin m) (j : Nat) (h : x.1 = j) : has (pre ++ [x]) j = true := by
  rw [has_snoc, h, beq_self_eq_true, Bool.or_true]
theorem box_kept {t : TypeId} {b B : Nat} {vs : List Value} {W W' : World} {row : Option Nat} (h : Box t b vs W) (hg : W.grownBy W' row) (hb : b < B) (hr : ∀ r, row = some r → B ≤ r) : Box t b vs W' :=
  (hg.block b h.lt (fun e => by have := hr _ e.symm; omega)).trans h
/-- The row of a made slice, as a block told whole. -/
theorem box_of_owns {W : World} {B g n : Nat} {f : Nat → Int} (h : W.ownsRow B 35 1 (.slice (some ⟨g, 0, none⟩) n n) n (rowU n f)) : Box 35 g (rowU n f) W := by
  rcases h.2 with ⟨h', _⟩ | ⟨g', cap', cur, h', _, hg, _, _, hcs, htake⟩
  · simp at h'
  · simp only [Value.slice.injEq, Option.some.injEq, Addr.mk.injEq, and_true, true_and] at h'
    obtain ⟨rfl, rfl⟩ := h'
    unfold Box
    rw [hg, ← htake, List.take_of_length_le (by rw [Array.length_toList, hcs]; exact Nat.le_refl _)]
theorem box_reads {W : World} {g n : Nat} {f : Nat → Int} (h : Box 35 g (rowU n f) W) : RdW W (.slice (some ⟨g, 0, none⟩) n n) ((List.range n).map f) := by
  refine ⟨some ⟨g, 0, none⟩, n, by simp, fun _ => ⟨g, 0, rfl, h.lt, fun k hk => ?_⟩⟩
  have hk' : k < n := by simpa using hk
  rw [Nat.zero_add, h.cell (j := k) (rowU_at n f k hk')]
  simp
/-- The code's words as far as they have come. -/
def rowH (t : ByteArray) {m : Nat} (pre : List (Fin m)) (j : Nat) : Int := if has pre (j + 2) = true then wAt t.data.toList (j + 2) else 0
def dataH (t : ByteArray) {m : Nat} (pre : List (Fin m)) : Int := if has pre 1 = true then wAt t.data.toList 1 else 0
theorem rowH_other (t : ByteArray) {m : Nat} (pre : List (Fin m)) (x : Fin m) (n : Nat) (h : x.1 < 2) : rowU n (rowH t (pre ++ [x])) = rowU n (rowH t pre) :=
  rowU_congr n _ _ fun j _ => by unfold rowH; rw [has_not _ _ _ (by omega)]
theorem rowH_here (t : ByteArray) {m : Nat} (pre : List (Fin m)) (x : Fin m) (n j : Nat) (h : x.1 = j + 2) : (rowU n (rowH t pre)).set j (.int .u32 (wAt t.data.toList x.1)) = rowU n (rowH t (pre ++ [x])) := by
  rw [rowU_set]
  refine rowU_congr n _ _ fun i _ => ?_
  unfold rowH
  by_cases hi : i = j
  · rw [if_pos hi, has_is _ _ _ (by rw [h, hi]), h, hi]; rfl
  · rw [if_neg hi, has_not _ _ _ (by omega)]
theorem dataH_other (t : ByteArray) {m : Nat} (pre : List (Fin m)) (x : Fin m) (h : x.1 ≠ 1) : dataH t (pre ++ [x]) = dataH t pre := by
  unfold dataH; rw [has_not _ _ _ h]
theorem dataH_here (t : ByteArray) {m : Nat} (pre : List (Fin m)) (x : Fin m) (h : x.1 = 1) : dataH t (pre ++ [x]) = wAt t.data.toList x.1 := by
  unfold dataH; rw [has_is _ _ _ h, h]; rfl
theorem rowH_all (t : ByteArray) {m : Nat} (ys : List (Fin m)) (h : ∀ k, k ∈ ys) (n : Nat) (hn : m = n + 2) : (List.range n).map (rowH t ys) = tailW t n := by
  refine List.map_congr_left fun j hj => ?_
  unfold rowH
  rw [has_all ys h _ (by have := List.mem_range.1 hj; omega)]; rfl
set_option maxRecDepth 100000 in
set_option maxHeartbeats 4000000 in
theorem cread_core (s t : ByteArray) (m n : Nat) (w : World) (HP : Hid (∀ w, Calls Try.prog 22 #[.string s, .string ⟨#[83, 69, 69, 68]⟩] w fun e w' => e = .returned (.tuple #[.string t, .bool true]) ∧ w = w')) (ht : t.size = 4 * m) (hmn : m = n + 2) (hn : n ≤ 16384) :
    Calls Try.prog 17 #[.string s] w fun e w' =>
      ((wAt t.data.toList 0 = (n : Int) ∧ wAt t.data.toList 1 ≤ 32768) ∧ (∃ p c, e = .returned (.tuple #[.agg #[.slice p n c, .int .i64 (wAt t.data.toList 1)], .int .i64 0]) ∧ RdW w' (.slice p n c) (tailW t n)) ∨
       ¬ (wAt t.data.toList 0 = (n : Int) ∧ wAt t.data.toList 1 ≤ 32768) ∧ e = .returned (.tuple #[.agg #[.slice none 0 0, .int .i64 0], .int .i64 7])) ∧ Below w.heap.size w w' := by
  have HM : Hid (∀ w, Calls Try.prog 23 #[.int .i64 (t.size : Int)] w fun e w' => e = .returned (.bool true) ∧ w = w') := fun w => may_any t.size true w (by
    have h1 : ((t.size : Int) % 4 == 0) = true := by simp; omega
    have h2 : decide ((8 : Int) ≤ (t.size : Int)) = true := decide_eq_true (by omega)
    have h3 : decide ((t.size : Int) ≤ 65544) = true := decide_eq_true (by omega)
    unfold mayM
    rw [h1, h2, h3]; rfl)
  have hq : (t.size : Int) / 4 = (m : Int) := by omega
  have hw0 : wrap64 (m : Int) = (m : Int) := IntWalk.wrap64_in _ (by omega)
  have hw2 : wrap64 ((m : Int) - 2) = (n : Int) := by rw [IntWalk.wrap64_in _ (by omega)]; omega
  have HT := Lib.hid ht
  have HMN := Lib.hid hmn
  obtain ⟨i0, hi, hz0, hz1, hz2⟩ := info_parts info_u32
  clear ht hmn
  refine (callsIn_wide (n := 3)).1 ?_
  refine callsIn_of_wp_marks Try.func17 rfl trivial ?_ rfl
  simp only [Try.ntmps17, List.size_toArray, List.length_cons, List.length_nil, Nat.reduceAdd, Nat.reduceSub, Array.replicate_succ, Array.replicate_zero, List.push_toArray, List.append_toArray, List.nil_append, List.cons_append]
  refine wpIn_wide.2 ?_
  obtain ⟨w1, hw1⟩ : ∃ w', w.alloc (.cells #[.slice none 0 0, .int .i64 0] 24) = w' := ⟨_, rfl⟩
  have hR : Box 24 w.heap.size [.slice none 0 0, .int .i64 0] w1 := by rw [← hw1]; exact Box.new _ _ w
  have hB : Below w.heap.size w w1 := by rw [← hw1]; exact (Below.refl _ _).alloc (Nat.le_refl _) _
  have hlt := hR.lt
  obtain ⟨wE, hwE⟩ : ∃ w', w1.alloc (.cells #[.int .i64 0] 28) = w' := ⟨_, rfl⟩
  have hE : Box 28 w1.heap.size [.int .i64 0] wE := by rw [← hwE]; exact Box.new _ _ w1
  have hD : Below w1.heap.size w1 wE := by rw [← hwE]; exact (Below.refl _ _).alloc (Nat.le_refl _) _
  replace hR := hR.on hD
  replace hB := hB.trans (hD.mono hB.size)
  clear hD
  go_wp2_with fail
  clear hw1 hwE
  refine (HP.out wE).mono ?_
  rintro e w3 ⟨rfl, rfl⟩
  go_wp2_with fail
  refine (HM.out wE).mono ?_
  rintro e w3 ⟨rfl, rfl⟩
  go_wp2_with (at_make; refine wpList_make_full _ rfl _ _ 22 rfl wE.heap.size 35 i0 (.int .u32 0) 1 Try.underlying22 hi hz0 hz1 .i64 .i64 _ _ n rfl rfl (by first | rfl | simp only [hw2]) (by first | rfl | simp only [hw2]) (by rw [hz2]; omega) (by unfold maxLen; omega) (Nat.le_refl _) ?_; intro w3 hown hg; obtain ⟨w4, hw4⟩ : ∃ w', w3.alloc (.cells #[.slice (some ⟨wE.heap.size, 0, none⟩) n n, .int .i64 0] 24) = w' := ⟨_, rfl⟩; have hM : Box 24 w3.heap.size [.slice (some ⟨wE.heap.size, 0, none⟩) n n, .int .i64 0] w4 := by { rw [← hw4]; exact Box.new _ _ w3 }; have z1 := hM.cell (j := 1) (v := .int .i64 0) rfl; have y1 := hM.fz 1; obtain ⟨w5, hw5⟩ : ∃ w', w4.setCell ⟨w3.heap.size, 1, none⟩ (.int .i64 0) = w' := ⟨_, rfl⟩)
  have hD : Below wE.heap.size wE w3 := (Below.refl _ _).grown hg (Nat.le_refl _) (fun k hk => by cases hk)
  rw [cells_zero] at hown
  have hX := box_of_owns hown
  clear hown hg
  have hlE := hE.lt
  have hlX := hX.lt
  replace hR := hR.on hD
  replace hE := hE.on hD
  replace hB := hB.trans (hD.mono hB.size)
  clear hD
  have hD : Below w3.heap.size w3 w4 := by rw [← hw4]; exact (Below.refl _ _).alloc (Nat.le_refl _) _
  replace hD : Below w3.heap.size w3 w5 := by rw [← hw5]; exact hD.setCell (p := ⟨w3.heap.size, 1, none⟩) (Nat.le_refl _) _
  replace hM : Box 24 w3.heap.size [.slice (some ⟨wE.heap.size, 0, none⟩) n n, .int .i64 0] w5 := by rw [← hw5]; exact hM.set 1 (.int .i64 0)
  clear z1 y1 hw4 hw5
  have hlM := hM.lt
  replace hR := hR.on hD
  replace hE := hE.on hD
  replace hX := hX.on hD
  replace hB := hB.trans (hD.mono hB.size)
  clear hD
  refine (callsIn_wide.1 (words_in 3 t w5)).mono ?_
  rintro e w6 ⟨rfl, hw6⟩
  have hN : Box 9 w5.heap.size [.string t] w6 := by rw [hw6]; exact Box.new _ _ w5
  have hD : Below w5.heap.size w5 w6 := by rw [hw6]; exact (Below.refl _ _).alloc (Nat.le_refl _) _
  replace hR := hR.on hD
  replace hE := hE.on hD
  replace hX := hX.on hD
  replace hM := hM.on hD
  replace hB := hB.trans (hD.mono hB.size)
  clear hD hw6
  have hlN := hN.lt
  go_wp2_with fail
  refine (wpIn_wide (n := 3)).1 ?_
  refine wpIn_rangeFunc_ownG rfl (by omega) (gf := 30) (lb := #[.pointer (some ⟨w5.heap.size, 0, none⟩)]) rfl trivial (enters_of Try.func30 (by kernel_rfl) rfl)
    (words_stops 2 (by omega) w5.heap.size m t w6 HT.out (by have := HMN.out; omega) hlN (hN.cell (j := 0) rfl))
    cellK_t (fun W l o o' _ hl ho _ => cellK_put W l o o' hl ho) (Below.refl _ _) (fun _ => rfl)
    (fun pre W => (has pre 0 = true → wAt t.data.toList 0 = (n : Int)) ∧ (has pre 1 = true → wAt t.data.toList 1 ≤ 32768) ∧ Box 24 w3.heap.size [.slice (some ⟨wE.heap.size, 0, none⟩) n n, .int .i64 (dataH t pre)] W ∧ Box 35 wE.heap.size (rowU n (rowH t pre)) W ∧
      Box 24 w.heap.size [.slice none 0 0, .int .i64 0] W ∧ Box 28 w1.heap.size [.int .i64 0] W ∧ Below w.heap.size w W)
    (fun c _ W => c = .ret ∧ ¬ (wAt t.data.toList 0 = (n : Int) ∧ wAt t.data.toList 1 ≤ 32768) ∧ Box 24 w.heap.size [.slice none 0 0, .int .i64 0] W ∧ Box 28 w1.heap.size [.int .i64 7] W ∧ Below w.heap.size w W)
    ?own ?ownx ⟨fun h => by simp [has] at h, fun h => by simp [has] at h, hM, hX, hR, hE, hB⟩ ?a1 ?assign ?body ?done ?stop
  case assign =>
    intro l x W K hK
    gi_wp2
    exact hK
  case own =>
    rintro pre X Y row ⟨h1, h2, hM, hX, hR, hE, hB⟩ hg hr
    have hr' : ∀ r, row = some r → w6.heap.size ≤ r := fun r e => (hr r e).1
    exact ⟨h1, h2, box_kept hM hg (by omega) hr', box_kept hX hg (by omega) hr', box_kept hR hg (by omega) hr', box_kept hE hg (by omega) hr', hB.grown hg hB.size (fun k e => by have := hr' k e; omega)⟩
  case ownx =>
    rintro c pre X Y row ⟨hc, h1, hR, hE, hB⟩ hg hr
    have hr' : ∀ r, row = some r → w6.heap.size ≤ r := fun r e => (hr r e).1
    exact ⟨hc, h1, box_kept hR hg (by omega) hr', box_kept hE hg (by omega) hr', hB.grown hg hB.size (fun k e => by have := hr' k e; omega)⟩
  case body =>
    rintro l pre x W ⟨h1, h2, hM, hX, hR, hE, hB⟩ hplt
    have m0 := hM.cell (j := 0) (v := .slice (some ⟨wE.heap.size, 0, none⟩) n n) rfl
    have hy0 : 0 ≤ wAt t.data.toList x.1 := (fw_bd _ _ _ _).1
    have hy1 : wAt t.data.toList x.1 < 4294967296 := (fw_bd _ _ _ _).2
    have hwn : IntKind.u32.wrap (n : Int) = (n : Int) := by rw [IntKind.wrap_u32]; omega
    obtain ⟨y, hy⟩ : ∃ y, wAt t.data.toList x.1 = y := ⟨_, rfl⟩
    obtain ⟨xi, hxi⟩ : ∃ xi : Int, (x.1 : Int) = xi := ⟨_, rfl⟩
    simp only [encW, hy, hxi]
    rw [hy] at hy0 hy1
    have hxm := x.2
    have HY := Lib.hid hy
    have HXI := Lib.hid hxi
    have HXM := Lib.hid hxm
    have H1 := Lib.hid h1
    have H2 := Lib.hid h2
    clear hy hxi hplt h1 h2 hxm
    have hNk : ∀ (W' : World), (∀ v, W.cell? ⟨w5.heap.size, 0, none⟩ = some v → W'.cell? ⟨w5.heap.size, 0, none⟩ = some v) → CellK w5.heap.size W W' := fun _ h => h
    by_cases x0 : x.1 = 0
    · have g0 : (xi == 0) = true := by have := HXI.out; simp; omega
      have HE0 : Hid (wAt t.data.toList 0 = y) := by have := HY.out; rw [x0] at this; exact this
      have X0 := Lib.hid x0
      clear x0
      by_cases q : y = (n : Int)
      · have q1 : (y == (n : Int)) = true := by simp [q]
        have q2 : (y != (n : Int)) = false := by simp [q]
        have Q := Lib.hid q
        clear q
        gi_wp2
        refine ⟨KeepsFrom.refl _ _, fun _ h => h, fun _ => by rw [HE0.out]; exact Q.out, fun h => H2.out (by rwa [has_not _ _ _ (by have := X0.out; omega)] at h), ?_, ?_, hR, hE, hB⟩
        · rw [dataH_other _ _ _ (by have := X0.out; omega)]; exact hM
        · rw [rowH_other _ _ _ _ (by have := X0.out; omega)]; exact hX
      · have q1 : (y == (n : Int)) = false := by simp [q]
        have q2 : (y != (n : Int)) = true := by simp [q]
        have Q := Lib.hid q
        clear q
        have c0 := hR.cell (j := 0) (v := .slice none 0 0) rfl
        have f0 := hR.fz 0
        have c1 := hR.cell (j := 1) (v := .int .i64 0) rfl
        have f1 := hR.fz 1
        obtain ⟨V, hV⟩ : ∃ w', (W.setCell ⟨w.heap.size, 0, none⟩ (.slice none 0 0)).setCell ⟨w.heap.size, 1, none⟩ (.int .i64 0) = w' := ⟨_, rfl⟩
        have hR4 : Box 24 w.heap.size [.slice none 0 0, .int .i64 0] V := by rw [← hV]; exact (hR.set 0 (.slice none 0 0)).set 1 (.int .i64 0)
        have hE4 : Box 28 w1.heap.size [.int .i64 0] V := by rw [← hV]; exact (hE.far (a := ⟨w.heap.size, 0, none⟩) (Nat.ne_of_gt hlt) _).far (a := ⟨w.heap.size, 1, none⟩) (Nat.ne_of_gt hlt) _
        have hB4 : Below w.heap.size w V := by rw [← hV]; exact (hB.setCell (p := ⟨w.heap.size, 0, none⟩) (Nat.le_refl _) _).setCell (p := ⟨w.heap.size, 1, none⟩) (Nat.le_refl _) _
        have hK4 : KeepsOthers W V := by rw [← hV]; exact (KeepsOthers.setCell W ⟨w.heap.size, 0, none⟩ (.slice none 0 0)).trans (KeepsOthers.setCell _ ⟨w.heap.size, 1, none⟩ (.int .i64 0))
        have c2 := hE4.cell (j := 0) (v := .int .i64 0) rfl
        have f2 := hE4.fz 0
        gi_wp2
        have hR5 := hR4.far (a := ⟨w1.heap.size, 0, none⟩) (Nat.ne_of_lt hlt) (.int .i64 7)
        have hE5 := hE4.set 0 (.int .i64 7)
        have hB5 := hB4.setCell (p := ⟨w1.heap.size, 0, none⟩) (Nat.le_of_lt hlt) (.int .i64 7)
        have hK5 := hK4.trans (KeepsOthers.setCell V ⟨w1.heap.size, 0, none⟩ (.int .i64 7))
        exact ⟨hK5.from _, rfl, fun h => Q.out (by rw [← HE0.out]; exact h.1), hR5, hE5, hB5⟩
    · have g0 : (xi == 0) = false := by have := HXI.out; simp; omega
      by_cases x1 : x.1 = 1
      · have g1 : (xi == 1) = true := by have := HXI.out; simp; omega
        have HE1 : Hid (wAt t.data.toList 1 = y) := by have := HY.out; rw [x1] at this; exact this
        have X1 := Lib.hid x1
        clear x0 x1
        by_cases q : y ≤ 32768
        · have q1 : decide (32768 < y) = false := decide_eq_false (by omega)
          have hwy : wrap64 y = y := IntWalk.wrap64_in _ (by omega)
          have hwz : IntKind.i64.wrap y = y := IntWalk.i64_in _ (by omega)
          have Q := Lib.hid q
          clear q
          have m1 := hM.cell (j := 1) (v := .int .i64 (dataH t pre)) rfl
          have n1 := hM.fz 1
          gi_wp2
          refine ⟨(KeepsOthers.setCell W ⟨w3.heap.size, 1, none⟩ (.int .i64 y)).from _, fun v h => by rw [World.cell?_setCell_other _ _ _ _ (fun q => by have := congrArg Addr.block q; simp at this; omega)]; exact h, fun h => H1.out (by rwa [has_not _ _ _ (by have := X1.out; omega)] at h), fun _ => by rw [HE1.out]; exact Q.out, ?_, ?_, hR.far (a := ⟨w3.heap.size, 1, none⟩) (by show _ ≠ w3.heap.size; omega) _, hE.far (a := ⟨w3.heap.size, 1, none⟩) (by show _ ≠ w3.heap.size; omega) _, hB.setCell (p := ⟨w3.heap.size, 1, none⟩) (by show _ ≤ w3.heap.size; omega) _⟩
          · rw [dataH_here _ _ _ X1.out, HY.out]; exact hM.set 1 (.int .i64 y)
          · rw [rowH_other _ _ _ _ (by have := X1.out; omega)]; exact hX.far (a := ⟨w3.heap.size, 1, none⟩) (by show _ ≠ w3.heap.size; omega) _
        · have q1 : decide (32768 < y) = true := decide_eq_true (by omega)
          have Q := Lib.hid q
          clear q
          have c0 := hR.cell (j := 0) (v := .slice none 0 0) rfl
          have f0 := hR.fz 0
          have c1 := hR.cell (j := 1) (v := .int .i64 0) rfl
          have f1 := hR.fz 1
          obtain ⟨V, hV⟩ : ∃ w', (W.setCell ⟨w.heap.size, 0, none⟩ (.slice none 0 0)).setCell ⟨w.heap.size, 1, none⟩ (.int .i64 0) = w' := ⟨_, rfl⟩
          have hR4 : Box 24 w.heap.size [.slice none 0 0, .int .i64 0] V := by rw [← hV]; exact (hR.set 0 (.slice none 0 0)).set 1 (.int .i64 0)
          have hE4 : Box 28 w1.heap.size [.int .i64 0] V := by rw [← hV]; exact (hE.far (a := ⟨w.heap.size, 0, none⟩) (Nat.ne_of_gt hlt) _).far (a := ⟨w.heap.size, 1, none⟩) (Nat.ne_of_gt hlt) _
          have hB4 : Below w.heap.size w V := by rw [← hV]; exact (hB.setCell (p := ⟨w.heap.size, 0, none⟩) (Nat.le_refl _) _).setCell (p := ⟨w.heap.size, 1, none⟩) (Nat.le_refl _) _
          have hK4 : KeepsOthers W V := by rw [← hV]; exact (KeepsOthers.setCell W ⟨w.heap.size, 0, none⟩ (.slice none 0 0)).trans (KeepsOthers.setCell _ ⟨w.heap.size, 1, none⟩ (.int .i64 0))
          have c2 := hE4.cell (j := 0) (v := .int .i64 0) rfl
          have f2 := hE4.fz 0
          gi_wp2
          have hR5 := hR4.far (a := ⟨w1.heap.size, 0, none⟩) (Nat.ne_of_lt hlt) (.int .i64 7)
          have hE5 := hE4.set 0 (.int .i64 7)
          have hB5 := hB4.setCell (p := ⟨w1.heap.size, 0, none⟩) (Nat.le_of_lt hlt) (.int .i64 7)
          have hK5 := hK4.trans (KeepsOthers.setCell V ⟨w1.heap.size, 0, none⟩ (.int .i64 7))
          exact ⟨hK5.from _, rfl, fun _ => by have := Q.out; have := HE1.out; omega, hR5, hE5, hB5⟩
      · have g1 : (xi == 1) = false := by have := HXI.out; simp; omega
        obtain ⟨j, hj⟩ : ∃ j, x.1 = j + 2 := ⟨x.1 - 2, by omega⟩
        have hwj : wrap64 (xi - 2) = (j : Int) := by have := HXI.out; rw [IntWalk.wrap64_in _ (by have := HXM.out; have := HMN.out; omega)]; omega
        have hwk : IntKind.i64.wrap (xi - 2) = (j : Int) := by have := HXI.out; rw [IntWalk.i64_in _ (by have := HXM.out; have := HMN.out; omega)]; omega
        have hj0 : (0 : Int) ≤ (j : Int) := by omega
        have hjn : j < n := by have := HXM.out; have := HMN.out; omega
        have hj1 : (j : Int) < (n : Int) := by omega
        have HJ := Lib.hid hj
        clear hj x0 x1
        have e0 := hX.cell (j := j) (rowU_at n _ j hjn)
        have e1 := hX.fz j
        gi_wp2
        refine ⟨(KeepsOthers.setCell W ⟨wE.heap.size, j, none⟩ (.int .u32 y)).from _, fun v h => by rw [World.cell?_setCell_other _ _ _ _ (fun q => by have := congrArg Addr.block q; simp at this; omega)]; exact h, fun h => H1.out (by rwa [has_not _ _ _ (by have := HJ.out; omega)] at h), fun h => H2.out (by rwa [has_not _ _ _ (by have := HJ.out; omega)] at h), ?_, ?_, hR.far (a := ⟨wE.heap.size, j, none⟩) (by show _ ≠ wE.heap.size; omega) _, hE.far (a := ⟨wE.heap.size, j, none⟩) (by show _ ≠ wE.heap.size; omega) _, hB.setCell (p := ⟨wE.heap.size, j, none⟩) (by show _ ≤ wE.heap.size; omega) _⟩
        · rw [dataH_other _ _ _ (by have := HJ.out; omega)]; exact hM.far (a := ⟨wE.heap.size, j, none⟩) (by show _ ≠ wE.heap.size; omega) _
        · rw [← rowH_here t pre x n j HJ.out, HY.out]; exact hX.set j (.int .u32 y)
  case done =>
    rintro D ys W hD hall ⟨h1, h2, hM, hX, hR, hE, hB⟩ hK
    have hd : dataH t ys = wAt t.data.toList 1 := by unfold dataH; rw [has_all ys hall 1 (by have := HMN.out; omega)]; rfl
    rw [hd] at hM
    have HG : Hid (wAt t.data.toList 0 = (n : Int) ∧ wAt t.data.toList 1 ≤ 32768) := ⟨h1 (has_all ys hall 0 (by have := HMN.out; omega)), h2 (has_all ys hall 1 (by have := HMN.out; omega))⟩
    have HA := Lib.hid hall
    clear h1 h2 hd hall
    generalize hz : wAt t.data.toList 1 = z at hM ⊢
    have HZ := Lib.hid hz
    clear hz
    have m0 := hM.cell (j := 0) (v := .slice (some ⟨wE.heap.size, 0, none⟩) n n) rfl
    have m1 := hM.cell (j := 1) (v := .int .i64 z) rfl
    have c0 := hR.cell (j := 0) (v := .slice none 0 0) rfl
    have f0 := hR.fz 0
    have c1 := hR.cell (j := 1) (v := .int .i64 0) rfl
    have f1 := hR.fz 1
    obtain ⟨V, hV⟩ : ∃ w', (W.setCell ⟨w.heap.size, 0, none⟩ (.slice (some ⟨wE.heap.size, 0, none⟩) n n)).setCell ⟨w.heap.size, 1, none⟩ (.int .i64 z) = w' := ⟨_, rfl⟩
    have hR4 : Box 24 w.heap.size [.slice (some ⟨wE.heap.size, 0, none⟩) n n, .int .i64 z] V := by rw [← hV]; exact (hR.set 0 (.slice (some ⟨wE.heap.size, 0, none⟩) n n)).set 1 (.int .i64 z)
    have hE4 : Box 28 w1.heap.size [.int .i64 0] V := by rw [← hV]; exact (hE.far (a := ⟨w.heap.size, 0, none⟩) (Nat.ne_of_gt hlt) _).far (a := ⟨w.heap.size, 1, none⟩) (Nat.ne_of_gt hlt) _
    have hB4 : Below w.heap.size w V := by rw [← hV]; exact (hB.setCell (p := ⟨w.heap.size, 0, none⟩) (Nat.le_refl _) _).setCell (p := ⟨w.heap.size, 1, none⟩) (Nat.le_refl _) _
    have hK4 : KeepsOthers W V := by rw [← hV]; exact (KeepsOthers.setCell W ⟨w.heap.size, 0, none⟩ (.slice (some ⟨wE.heap.size, 0, none⟩) n n)).trans (KeepsOthers.setCell _ ⟨w.heap.size, 1, none⟩ (.int .i64 z))
    have c2 := hE4.cell (j := 0) (v := .int .i64 0) rfl
    have f2 := hE4.fz 0
    go_wp2_with fail
    have hR5 := hR4.far (a := ⟨w1.heap.size, 0, none⟩) (Nat.ne_of_lt hlt) (.int .i64 0)
    have hE5 := hE4.set 0 (.int .i64 0)
    have hB5 := hB4.setCell (p := ⟨w1.heap.size, 0, none⟩) (Nat.le_of_lt hlt) (.int .i64 0)
    have hK5 := hK4.trans (KeepsOthers.setCell V ⟨w1.heap.size, 0, none⟩ (.int .i64 0))
    have hXf := ((hX.far (a := ⟨w.heap.size, 0, none⟩) (by show _ ≠ w.heap.size; omega) (.slice (some ⟨wE.heap.size, 0, none⟩) n n)).far (a := ⟨w.heap.size, 1, none⟩) (by show _ ≠ w.heap.size; omega) (.int .i64 z))
    rw [hV] at hXf
    have hX5 := hXf.far (a := ⟨w1.heap.size, 0, none⟩) (by show _ ≠ w1.heap.size; omega) (.int .i64 0)
    have hKf := hK5.same D _ hK rfl
    clear hXf hX m0 m1 hR hM hE hB hR4 hE4 hB4 hK4 hK5 hK c0 c1 c2 f0 f1 f2
    generalize V.setCell ⟨w1.heap.size, 0, none⟩ (.int .i64 0) = wf at *
    have hgr : ∀ r, some D = some r → w6.heap.size ≤ r := fun r e => by cases e; exact hD
    have hg := grownBy_putObj' wf D (.deferred none)
    have hR6 := box_kept hR5 hg (B := w6.heap.size) (by omega) hgr
    have hE6 := box_kept hE5 hg (B := w6.heap.size) (by omega) hgr
    have hX6 := box_kept hX5 hg (B := w6.heap.size) (by omega) hgr
    have hB6 : Below w.heap.size w (wf.putObj D (.deferred none)) := hB5.grown hg hB5.size (fun k e => by cases e; omega)
    have r0 := hR6.cell (j := 0) (v := .slice (some ⟨wE.heap.size, 0, none⟩) n n) rfl
    have r1 := hR6.cell (j := 1) (v := .int .i64 z) rfl
    have r2 := hE6.cell (j := 0) (v := .int .i64 0) rfl
    have hrd := box_reads hX6
    rw [rowH_all t ys HA.out n HMN.out] at hrd
    refine ⟨by simp, .inl ⟨_, _, rfl, run_takeDeferred hKf, ?_⟩⟩
    exact ⟨.tuple #[.agg #[.slice (some ⟨wE.heap.size, 0, none⟩) n n, .int .i64 z], .int .i64 0], by simp [results, Try.results17, go_sem, r0, r1, r2], .inl ⟨HG.out, _, _, by rw [HZ.out], hrd⟩, hB6⟩
  case stop =>
    rintro D c pre W hD _ ⟨rfl, hbad, hR, hE, hB⟩ hK
    have HB := Lib.hid hbad
    clear hbad
    gi_wp2
    have hgr : ∀ r, some D = some r → w6.heap.size ≤ r := fun r e => by cases e; exact hD
    have hg := grownBy_putObj' W D (.deferred none)
    have hR6 := box_kept hR hg (B := w6.heap.size) (by omega) hgr
    have hE6 := box_kept hE hg (B := w6.heap.size) (by omega) hgr
    have hB6 : Below w.heap.size w (W.putObj D (.deferred none)) := hB.grown hg hB.size (fun k e => by cases e; omega)
    have r0 := hR6.cell (j := 0) (v := .slice none 0 0) rfl
    have r1 := hR6.cell (j := 1) (v := .int .i64 0) rfl
    have r2 := hE6.cell (j := 0) (v := .int .i64 7) rfl
    refine ⟨by simp, .inl ⟨_, _, rfl, run_takeDeferred hK, ?_⟩⟩
    exact ⟨.tuple #[.agg #[.slice none 0 0, .int .i64 0], .int .i64 7], by simp [results, Try.results17, go_sem, r0, r1, r2], .inr ⟨HB.out, rfl⟩, hB6⟩
end Go.Proofs.Ytfaedjpfbaiojaa
