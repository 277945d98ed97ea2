/-
  ImageApart: the walk (written by gen_imU.py).
-/
import Derived.Test.YtfaedjpfbaiojaaImT
import Derived.Deep.CutRange
import Derived.Deep.LoopGhost
import Derived.Deep.RegionHeld3
import Derived.StillTailTactics
namespace Go.Proofs.Ytfaedjpfbaiojaa
open Go.RowKit

theorem apart_same {t u : ByteArray} {n n' : Nat} {d d' : Int} {xs ys : List Int} (h : ImgAt t n d xs) (h' : ImgAt u n' d' ys) : (t.toList == u.toList) = sameM xs ys d d' := by
  rw [Bool.eq_iff_iff, beq_iff_eq, same_iff]
  constructor
  · intro e
    have e1 : t = u := by
      rw [ByteArray.toList_eq, ByteArray.toList_eq] at e
      exact ByteArray.ext (Array.toList_inj.1 e)
    subst e1
    have := img_inj h h'
    exact ⟨this.2.1, this.2.2⟩
  · rintro ⟨rfl, rfl⟩
    rw [(img_is h).1, (img_is h').1]
theorem OwnsW.apart {B b : Nat} {t : TypeId} {v : Value} {xs : List Int} {vs : List Value} {w : World} (h : OwnsW B v xs w) (hb : Box t b vs w) (ht : t ≠ 35) : v.ownBlock ≠ some b := by
  rcases h.2 with ⟨rfl, _⟩ | ⟨g, cap, cur, rfl, _, hgg, _⟩
  · simp [Value.ownBlock]
  · intro e
    simp only [Value.ownBlock, Option.some.injEq] at e
    subst e
    unfold Box at hb
    rw [hgg] at hb
    simp only [Option.some.injEq, Obj.cells.injEq] at hb
    exact ht hb.2.1.symm
theorem OwnsW.far {B b : Nat} {t : TypeId} {v : Value} {xs : List Int} {vs : List Value} {w : World} (h : OwnsW B v xs w) (hb : Box t b vs w) (ht : t ≠ 35) (j : Nat) (u : Value) : OwnsW B v xs (w.setCell ⟨b, j, none⟩ u) :=
  World.ownsRow.kept (row := some b) h ⟨rfl, rfl, rfl, by simp [World.setCell], fun k _ hk => Below.heap_setCell _ _ _ _ (fun e => hk (by rw [e]))⟩ (Or.inr (h.apart hb ht))
theorem OwnsW.at' {B : Nat} {v : Value} {xs : List Int} {w : World} (h : OwnsW B v xs w) (k : Nat) (hk : k < xs.length) : ∃ g cap, v = .slice (some ⟨g, 0, none⟩) xs.length cap ∧ B ≤ g ∧ w.cell? ⟨g, k, none⟩ = some (.int .u32 (xs.getD k 0)) ∧ w.frozen? ⟨g, k, none⟩ = false ∧ ∀ y, OwnsW B v (xs.set k y) (w.setCell ⟨g, k, none⟩ (.int .u32 y)) := by
  unfold OwnsW at h ⊢
  rcases h.2 with ⟨_, h0⟩ | ⟨g, cap, cur, rfl, hb, hg, hnc, hcm, hs, ht⟩
  · omega
  · rw [Nat.mul_one] at hs ht
    refine ⟨g, cap, rfl, hb, ?_, frozen_of_row w g k cur _ hg, fun y => ⟨by simp [wCells], Or.inr ⟨g, cap, cur.setIfInBounds k (.int .u32 y), by rw [List.length_set], hb, heap_setCell_same w g k cur _ _ hg, by rw [List.length_set]; exact hnc, hcm, by simp [hs], ?_⟩⟩⟩
    · rw [cell_of_row w g k cur _ _ hg]
      have e : (cur.toList.take xs.length)[k]? = (wCells xs)[k]? := by rw [ht]
      rw [List.getElem?_take_of_lt hk] at e
      rw [← Array.getElem?_toList, e]
      simp [wCells, List.getElem?_eq_getElem hk]
    · rw [Nat.mul_one, List.length_set, Array.toList_setIfInBounds, List.take_set, ht]
      simp [wCells, List.map_set]
theorem OwnsW.atg {B g n cap : Nat} {xs : List Int} {w : World} (h : OwnsW B (.slice (some ⟨g, 0, none⟩) n cap) xs w) (k : Nat) (hk : k < xs.length) : w.cell? ⟨g, k, none⟩ = some (.int .u32 (xs.getD k 0)) ∧ w.frozen? ⟨g, k, none⟩ = false ∧ ∀ y, OwnsW B (.slice (some ⟨g, 0, none⟩) n cap) (xs.set k y) (w.setCell ⟨g, k, none⟩ (.int .u32 y)) := by
  obtain ⟨g', cap', hv, _, h1, h2, h3⟩ := h.at' k hk
  have e : g = g' := by injection hv with e1; injection e1 with e2; injection e2
  subst e
  exact ⟨h1, h2, h3⟩
theorem OwnsW.form {B n cap : Nat} {p : Option Addr} {xs : List Int} {w : World} (h : OwnsW B (.slice p n cap) xs w) (hk : 0 < xs.length) : ∃ g, p = some ⟨g, 0, none⟩ ∧ B ≤ g := by
  obtain ⟨g, cap', hv, hb, _⟩ := h.at' 0 hk
  injection hv with e1
  exact ⟨g, e1, hb⟩
theorem bd_set {xs : List Int} (h : Bd xs) (k : Nat) (y : Int) (h0 : 0 ≤ y) (h1 : y < 4294967296) : Bd (xs.set k y) := fun x hx => by
  rcases List.mem_or_eq_of_mem_set hx with e | e
  · exact h x e
  · subst e; exact ⟨h0, h1⟩
theorem set_other {xs : List Int} (k : Nat) (y : Int) (hk : k < xs.length) (hy : y ≠ xs.getD k 0) : xs.set k y ≠ xs := fun e => by
  have h := congrArg (fun l => l.getD k 0) e
  simp only [List.getD_eq_getElem?_getD, List.getElem?_set_self hk, Option.getD_some] at h
  exact hy (by rw [List.getD_eq_getElem?_getD]; exact h)
theorem OwnsW.al {B : Nat} {v : Value} {xs : List Int} {w : World} (h : OwnsW B v xs w) (o : Obj) : OwnsW B v xs (w.alloc o) := h.on ((Below.refl _ w).alloc (Nat.le_refl _) o)
theorem box_grown {b : Nat} {t : TypeId} {vs : List Value} {w w' : World} {row : Option Nat} (h : Box t b vs w) (hg : w.grownBy w' row) (hne : row ≠ some b) : Box t b vs w' := by
  have e := hg.block b h.lt (fun e => hne e.symm)
  unfold Box at h ⊢
  rw [e]; exact h
set_option maxHeartbeats 8000000 in
set_option maxRecDepth 100000 in
theorem iap_1 (p p' : Option Addr) (n n' c c' : Nat) (d d' a : Int) (w : World) (h : 500 < n) : Calls Try.prog 7 #[.agg #[.slice p n c, .int .i64 d], .agg #[.slice p' n' c', .int .i64 d'], .int .i64 a] w fun e w' => e = .returned (.bool true) ∧ Below w.heap.size w w' := by
  have g1 : decide ((500 : Int) < (n : Int)) = true := decide_eq_true (by omega)
  obtain ⟨w1, hw1⟩ : ∃ w', w.alloc (.cells #[.slice p n c, .int .i64 d] 24) = w' := ⟨_, rfl⟩
  have hI : Box 24 w.heap.size [.slice p n c, .int .i64 d] w1 := by rw [← hw1]; exact Box.new 24 [.slice p n c, .int .i64 d] w
  have hD : Below w.heap.size w w1 := by rw [← hw1]; exact (Below.refl _ _).alloc (Nat.le_refl _) _
  have hB := hD
  clear hD
  obtain ⟨w2, hw2⟩ : ∃ w', w1.alloc (.cells #[.slice p' n' c', .int .i64 d'] 24) = w' := ⟨_, rfl⟩
  have hK : Box 24 w1.heap.size [.slice p' n' c', .int .i64 d'] w2 := by rw [← hw2]; exact Box.new 24 [.slice p' n' c', .int .i64 d'] w1
  have hD : Below w1.heap.size w1 w2 := by rw [← hw2]; exact (Below.refl _ _).alloc (Nat.le_refl _) _
  replace hI := hI.on hD
  replace hB := hB.trans (hD.mono hB.size)
  clear hD
  go_enter Try.func7, Try.ntmps7
  go_wp2_with fail
  clear hw1 hw2
  refine (awake8_any w2).mono ?_
  rintro e w3 ⟨rfl, hD⟩
  replace hI := hI.on hD
  replace hK := hK.on hD
  replace hB := hB.trans (hD.mono hB.size)
  clear hD
  have chI0 := hI.cell (j := 0) (v := .slice p n c) rfl
  have chI1 := hI.cell (j := 1) (v := .int .i64 d) rfl
  have chK0 := hK.cell (j := 0) (v := .slice p' n' c') rfl
  have chK1 := hK.cell (j := 1) (v := .int .i64 d') rfl
  go_wp2_with fail
  clear chI0 chI1 chK0 chK1
  go_ret
  exact ⟨rfl, hB⟩
set_option maxHeartbeats 8000000 in
set_option maxRecDepth 100000 in
theorem iap_2 (p p' : Option Addr) (n n' c c' : Nat) (d d' a : Int) (w : World) (h : ¬ 500 < n) (h2 : 500 < n') : Calls Try.prog 7 #[.agg #[.slice p n c, .int .i64 d], .agg #[.slice p' n' c', .int .i64 d'], .int .i64 a] w fun e w' => e = .returned (.bool true) ∧ Below w.heap.size w w' := by
  have g1 : decide ((500 : Int) < (n : Int)) = false := decide_eq_false (by omega)
  have g2 : decide ((500 : Int) < (n' : Int)) = true := decide_eq_true (by omega)
  obtain ⟨w1, hw1⟩ : ∃ w', w.alloc (.cells #[.slice p n c, .int .i64 d] 24) = w' := ⟨_, rfl⟩
  have hI : Box 24 w.heap.size [.slice p n c, .int .i64 d] w1 := by rw [← hw1]; exact Box.new 24 [.slice p n c, .int .i64 d] w
  have hD : Below w.heap.size w w1 := by rw [← hw1]; exact (Below.refl _ _).alloc (Nat.le_refl _) _
  have hB := hD
  clear hD
  obtain ⟨w2, hw2⟩ : ∃ w', w1.alloc (.cells #[.slice p' n' c', .int .i64 d'] 24) = w' := ⟨_, rfl⟩
  have hK : Box 24 w1.heap.size [.slice p' n' c', .int .i64 d'] w2 := by rw [← hw2]; exact Box.new 24 [.slice p' n' c', .int .i64 d'] w1
  have hD : Below w1.heap.size w1 w2 := by rw [← hw2]; exact (Below.refl _ _).alloc (Nat.le_refl _) _
  replace hI := hI.on hD
  replace hB := hB.trans (hD.mono hB.size)
  clear hD
  go_enter Try.func7, Try.ntmps7
  go_wp2_with fail
  clear hw1 hw2
  refine (awake8_any w2).mono ?_
  rintro e w3 ⟨rfl, hD⟩
  replace hI := hI.on hD
  replace hK := hK.on hD
  replace hB := hB.trans (hD.mono hB.size)
  clear hD
  have chI0 := hI.cell (j := 0) (v := .slice p n c) rfl
  have chI1 := hI.cell (j := 1) (v := .int .i64 d) rfl
  have chK0 := hK.cell (j := 0) (v := .slice p' n' c') rfl
  have chK1 := hK.cell (j := 1) (v := .int .i64 d') rfl
  go_wp2_with fail
  clear chI0 chI1 chK0 chK1
  go_ret
  exact ⟨rfl, hB⟩
set_option maxHeartbeats 8000000 in
set_option maxRecDepth 100000 in
theorem iap_3 (p p' : Option Addr) (n n' c c' : Nat) (d d' a : Int) (w : World) (h : ¬ 500 < n) (h2 : ¬ 500 < n') (r : rightM n d = false) : Calls Try.prog 7 #[.agg #[.slice p n c, .int .i64 d], .agg #[.slice p' n' c', .int .i64 d'], .int .i64 a] w fun e w' => e = .returned (.bool true) ∧ Below w.heap.size w w' := by
  have g1 : decide ((500 : Int) < (n : Int)) = false := decide_eq_false (by omega)
  have g2 : decide ((500 : Int) < (n' : Int)) = false := decide_eq_false (by omega)
  have H := Lib.hid r
  clear r
  obtain ⟨w1, hw1⟩ : ∃ w', w.alloc (.cells #[.slice p n c, .int .i64 d] 24) = w' := ⟨_, rfl⟩
  have hI : Box 24 w.heap.size [.slice p n c, .int .i64 d] w1 := by rw [← hw1]; exact Box.new 24 [.slice p n c, .int .i64 d] w
  have hD : Below w.heap.size w w1 := by rw [← hw1]; exact (Below.refl _ _).alloc (Nat.le_refl _) _
  have hB := hD
  clear hD
  obtain ⟨w2, hw2⟩ : ∃ w', w1.alloc (.cells #[.slice p' n' c', .int .i64 d'] 24) = w' := ⟨_, rfl⟩
  have hK : Box 24 w1.heap.size [.slice p' n' c', .int .i64 d'] w2 := by rw [← hw2]; exact Box.new 24 [.slice p' n' c', .int .i64 d'] w1
  have hD : Below w1.heap.size w1 w2 := by rw [← hw2]; exact (Below.refl _ _).alloc (Nat.le_refl _) _
  replace hI := hI.on hD
  replace hB := hB.trans (hD.mono hB.size)
  clear hD
  go_enter Try.func7, Try.ntmps7
  go_wp2_with fail
  clear hw1 hw2
  refine (awake8_any w2).mono ?_
  rintro e w3 ⟨rfl, hD⟩
  replace hI := hI.on hD
  replace hK := hK.on hD
  replace hB := hB.trans (hD.mono hB.size)
  clear hD
  have chI0 := hI.cell (j := 0) (v := .slice p n c) rfl
  have chI1 := hI.cell (j := 1) (v := .int .i64 d) rfl
  have chK0 := hK.cell (j := 0) (v := .slice p' n' c') rfl
  have chK1 := hK.cell (j := 1) (v := .int .i64 d') rfl
  go_wp2_with fail
  clear chI0 chI1 chK0 chK1
  refine (rright8_val p n c d false w3 H.out).mono ?_
  rintro e w4 ⟨rfl, hD⟩
  replace hI := hI.on hD
  replace hK := hK.on hD
  replace hB := hB.trans (hD.mono hB.size)
  clear hD
  have chK0 := hK.cell (j := 0) (v := .slice p' n' c') rfl
  have chK1 := hK.cell (j := 1) (v := .int .i64 d') rfl
  go_wp2_with fail
  clear chK0 chK1
  go_ret
  exact ⟨rfl, hB⟩
set_option maxHeartbeats 8000000 in
set_option maxRecDepth 100000 in
theorem iap_4 (p p' : Option Addr) (n n' c c' : Nat) (d d' a : Int) (w : World) (h : ¬ 500 < n) (h2 : ¬ 500 < n') (r : rightM n d = true) (r2 : rightM n' d' = false) : Calls Try.prog 7 #[.agg #[.slice p n c, .int .i64 d], .agg #[.slice p' n' c', .int .i64 d'], .int .i64 a] w fun e w' => e = .returned (.bool true) ∧ Below w.heap.size w w' := by
  have g1 : decide ((500 : Int) < (n : Int)) = false := decide_eq_false (by omega)
  have g2 : decide ((500 : Int) < (n' : Int)) = false := decide_eq_false (by omega)
  have H := Lib.hid r
  have H2 := Lib.hid r2
  clear r r2
  obtain ⟨w1, hw1⟩ : ∃ w', w.alloc (.cells #[.slice p n c, .int .i64 d] 24) = w' := ⟨_, rfl⟩
  have hI : Box 24 w.heap.size [.slice p n c, .int .i64 d] w1 := by rw [← hw1]; exact Box.new 24 [.slice p n c, .int .i64 d] w
  have hD : Below w.heap.size w w1 := by rw [← hw1]; exact (Below.refl _ _).alloc (Nat.le_refl _) _
  have hB := hD
  clear hD
  obtain ⟨w2, hw2⟩ : ∃ w', w1.alloc (.cells #[.slice p' n' c', .int .i64 d'] 24) = w' := ⟨_, rfl⟩
  have hK : Box 24 w1.heap.size [.slice p' n' c', .int .i64 d'] w2 := by rw [← hw2]; exact Box.new 24 [.slice p' n' c', .int .i64 d'] w1
  have hD : Below w1.heap.size w1 w2 := by rw [← hw2]; exact (Below.refl _ _).alloc (Nat.le_refl _) _
  replace hI := hI.on hD
  replace hB := hB.trans (hD.mono hB.size)
  clear hD
  go_enter Try.func7, Try.ntmps7
  go_wp2_with fail
  clear hw1 hw2
  refine (awake8_any w2).mono ?_
  rintro e w3 ⟨rfl, hD⟩
  replace hI := hI.on hD
  replace hK := hK.on hD
  replace hB := hB.trans (hD.mono hB.size)
  clear hD
  have chI0 := hI.cell (j := 0) (v := .slice p n c) rfl
  have chI1 := hI.cell (j := 1) (v := .int .i64 d) rfl
  have chK0 := hK.cell (j := 0) (v := .slice p' n' c') rfl
  have chK1 := hK.cell (j := 1) (v := .int .i64 d') rfl
  go_wp2_with fail
  clear chI0 chI1 chK0 chK1
  refine (rright8_val p n c d true w3 H.out).mono ?_
  rintro e w4 ⟨rfl, hD⟩
  replace hI := hI.on hD
  replace hK := hK.on hD
  replace hB := hB.trans (hD.mono hB.size)
  clear hD
  have chK0 := hK.cell (j := 0) (v := .slice p' n' c') rfl
  have chK1 := hK.cell (j := 1) (v := .int .i64 d') rfl
  go_wp2_with fail
  clear chK0 chK1
  refine (rright8_val p' n' c' d' false w4 H2.out).mono ?_
  rintro e w5 ⟨rfl, hD⟩
  replace hI := hI.on hD
  replace hK := hK.on hD
  replace hB := hB.trans (hD.mono hB.size)
  clear hD
  have chK0 := hK.cell (j := 0) (v := .slice p' n' c') rfl
  have chK1 := hK.cell (j := 1) (v := .int .i64 d') rfl
  go_wp2_with fail
  clear chK0 chK1
  go_ret
  exact ⟨rfl, hB⟩
set_option maxHeartbeats 8000000 in
set_option maxRecDepth 100000 in
theorem iap_lo (p p' : Option Addr) (n n' c c' : Nat) (d d' a : Int) (w : World) (xs ys : List Int) (hn : n = xs.length) (hn' : n' = ys.length) (hb : Bd xs) (hb' : Bd ys) (hX : RdW w (.slice p n c) xs) (hY : RdW w (.slice p' n' c') ys) (hc : n ≤ c) (hcm : c ≤ maxLen) (hc' : n' ≤ c') (hcm' : c' ≤ maxLen) (h : ¬ 500 < n) (h2 : ¬ 500 < n') (r : rightM n d = true) (r2 : rightM n' d' = true) (ha : a < 0) : Calls Try.prog 7 #[.agg #[.slice p n c, .int .i64 d], .agg #[.slice p' n' c', .int .i64 d'], .int .i64 a] w fun e w' => e = .returned (.bool true) ∧ Below w.heap.size w w' := by
  have g1 : decide ((500 : Int) < (n : Int)) = false := decide_eq_false (by omega)
  have g2 : decide ((500 : Int) < (n' : Int)) = false := decide_eq_false (by omega)
  obtain ⟨t, ht⟩ : ∃ t : ByteArray, t = ⟨(putL d xs).toArray⟩ := ⟨_, rfl⟩
  obtain ⟨u, hu⟩ : ∃ t : ByteArray, t = ⟨(putL d' ys).toArray⟩ := ⟨_, rfl⟩
  have hI : ImgAt t n d xs := by rw [ht, hn]; exact img_put hb (by rw [← hn]; exact r)
  have hI' : ImgAt u n' d' ys := by rw [hu, hn']; exact img_put hb' (by rw [← hn']; exact r2)
  obtain ⟨gs, hgs⟩ : ∃ g, sameM xs ys d d' = g := ⟨_, rfl⟩
  have heq := apart_same hI hI'
  rw [hgs] at heq
  have hne : ((t.toList == u.toList) != gs) = false := by rw [heq]; exact bne_self_eq_false _
  have g3 : decide (a < 0) = true := decide_eq_true ha
  obtain ⟨t2, ht2⟩ : ∃ t : ByteArray, t = ⟨(putL (32768 - d) xs).toArray⟩ := ⟨_, rfl⟩
  have r3 : rightM n (32768 - d) = true := by unfold rightM at r ⊢; simp at r ⊢; omega
  have hI3 : ImgAt t2 n (32768 - d) xs := by rw [ht2, hn]; exact img_put hb (by rw [← hn]; exact r3)
  have heq2 : (t2.toList == t.toList) = (d == 16384) := by rw [apart_same hI3 hI, Bool.eq_iff_iff, same_iff, beq_iff_eq]; exact ⟨fun h => by omega, fun h => ⟨by omega, rfl⟩⟩
  have hne2 : ((t2.toList == t.toList) != (d == 16384)) = false := by rw [heq2]; exact bne_self_eq_false _
  have H3 := Lib.hid r3
  have HT2 := Lib.hid ht2
  clear r3 ht2 hI3
  have HXL : Hid (xs.length ≤ 100000) := by show _ ≤ _; omega
  have hdw : IntKind.i64.wrap (32768 - d) = 32768 - d := by unfold rightM at r; simp at r; exact IntWalk.i64_in _ (by omega)
  have HM1 : Hid (xs.length ≤ 1000000) := by show _ ≤ _; omega
  have HM2 : Hid (ys.length ≤ 1000000) := by show _ ≤ _; omega
  have H := Lib.hid r
  have H2 := Lib.hid r2
  have HN := Lib.hid hn
  have HN2 := Lib.hid hn'
  have HT := Lib.hid ht
  have HU := Lib.hid hu
  have HBD := Lib.hid hb
  have HBD2 := Lib.hid hb'
  have HGS := Lib.hid hgs
  have HC1 := Lib.hid hc
  have HC2 := Lib.hid hcm
  have HC3 := Lib.hid hc'
  have HC4 := Lib.hid hcm'
  clear h h2 r r2 hn hn' ht hu hb hb' hI hI' hgs hc hcm hc' hcm'
  obtain ⟨w1, hw1⟩ : ∃ w', w.alloc (.cells #[.slice p n c, .int .i64 d] 24) = w' := ⟨_, rfl⟩
  have hI : Box 24 w.heap.size [.slice p n c, .int .i64 d] w1 := by rw [← hw1]; exact Box.new 24 [.slice p n c, .int .i64 d] w
  have hD : Below w.heap.size w w1 := by rw [← hw1]; exact (Below.refl _ _).alloc (Nat.le_refl _) _
  replace hX := hX.on hD
  replace hY := hY.on hD
  have hB := hD
  clear hD
  obtain ⟨w2, hw2⟩ : ∃ w', w1.alloc (.cells #[.slice p' n' c', .int .i64 d'] 24) = w' := ⟨_, rfl⟩
  have hK : Box 24 w1.heap.size [.slice p' n' c', .int .i64 d'] w2 := by rw [← hw2]; exact Box.new 24 [.slice p' n' c', .int .i64 d'] w1
  have hD : Below w1.heap.size w1 w2 := by rw [← hw2]; exact (Below.refl _ _).alloc (Nat.le_refl _) _
  replace hI := hI.on hD
  replace hX := hX.on hD
  replace hY := hY.on hD
  replace hB := hB.trans (hD.mono hB.size)
  clear hD
  go_enter Try.func7, Try.ntmps7
  go_wp2_with fail
  clear hw1 hw2
  refine (awake8_any w2).mono ?_
  rintro e w3 ⟨rfl, hD⟩
  replace hI := hI.on hD
  replace hK := hK.on hD
  replace hX := hX.on hD
  replace hY := hY.on hD
  replace hB := hB.trans (hD.mono hB.size)
  clear hD
  have chI0 := hI.cell (j := 0) (v := .slice p n c) rfl
  have chI1 := hI.cell (j := 1) (v := .int .i64 d) rfl
  have chK0 := hK.cell (j := 0) (v := .slice p' n' c') rfl
  have chK1 := hK.cell (j := 1) (v := .int .i64 d') rfl
  go_wp2_with fail
  clear chI0 chI1 chK0 chK1
  refine (rright8_val p n c d true w3 H.out).mono ?_
  rintro e w4 ⟨rfl, hD⟩
  replace hI := hI.on hD
  replace hK := hK.on hD
  replace hX := hX.on hD
  replace hY := hY.on hD
  replace hB := hB.trans (hD.mono hB.size)
  clear hD
  have chK0 := hK.cell (j := 0) (v := .slice p' n' c') rfl
  have chK1 := hK.cell (j := 1) (v := .int .i64 d') rfl
  go_wp2_with fail
  clear chK0 chK1
  refine (rright8_val p' n' c' d' true w4 H2.out).mono ?_
  rintro e w5 ⟨rfl, hD⟩
  replace hI := hI.on hD
  replace hK := hK.on hD
  replace hX := hX.on hD
  replace hY := hY.on hD
  replace hB := hB.trans (hD.mono hB.size)
  clear hD
  have chI0 := hI.cell (j := 0) (v := .slice p n c) rfl
  have chI1 := hI.cell (j := 1) (v := .int .i64 d) rfl
  go_wp2_with fail
  clear chI0 chI1
  refine (cput8_val p n c d xs t w5 HN.out HBD.out hX H.out HT.out).mono ?_
  rintro e w6 ⟨rfl, hD⟩
  replace hI := hI.on hD
  replace hK := hK.on hD
  replace hX := hX.on hD
  replace hY := hY.on hD
  replace hB := hB.trans (hD.mono hB.size)
  clear hD
  have chK0 := hK.cell (j := 0) (v := .slice p' n' c') rfl
  have chK1 := hK.cell (j := 1) (v := .int .i64 d') rfl
  go_wp2_with fail
  clear chK0 chK1
  refine (cput8_val p' n' c' d' ys u w6 HN2.out HBD2.out hY H2.out HU.out).mono ?_
  rintro e w7 ⟨rfl, hD⟩
  replace hI := hI.on hD
  replace hK := hK.on hD
  replace hX := hX.on hD
  replace hY := hY.on hD
  replace hB := hB.trans (hD.mono hB.size)
  clear hD
  have chI0 := hI.cell (j := 0) (v := .slice p n c) rfl
  have chI1 := hI.cell (j := 1) (v := .int .i64 d) rfl
  have chK0 := hK.cell (j := 0) (v := .slice p' n' c') rfl
  have chK1 := hK.cell (j := 1) (v := .int .i64 d') rfl
  go_wp2_with fail
  clear chI0 chI1 chK0 chK1
  refine (csame8_val p p' n n' c c' xs ys d d' gs w7 HN.out HN2.out HM1.out HM2.out hX hY HC1.out HC2.out HC3.out HC4.out HGS.out).mono ?_
  rintro e w8 ⟨rfl, hD⟩
  replace hI := hI.on hD
  replace hK := hK.on hD
  replace hX := hX.on hD
  replace hY := hY.on hD
  replace hB := hB.trans (hD.mono hB.size)
  clear hD
  have hszB := hB.size
  go_upto_region 9 with fail
  go_cut [11] from 55 to 62 (fun sa wx => ∃ bc pv cv, sa = .pointer (some ⟨bc, 0, none⟩) ∧ w8.heap.size ≤ bc ∧ Box 24 bc [.slice pv n cv, .int .i64 (32768 - d)] wx ∧ OwnsW w8.heap.size (.slice pv n cv) xs wx ∧ Below w8.heap.size w8 wx)
  case first =>
    have hkS : ∀ W : World, Below w8.heap.size w8 W → (W.cell? ⟨w.heap.size, 0, none⟩ = some (.slice p n c) ∧ W.cell? ⟨w.heap.size, 1, none⟩ = some (.int .i64 d)) := fun W h => ⟨(hI.on h).cell (j := 0) rfl, (hI.on h).cell (j := 1) rfl⟩
    have hB0 : Below w8.heap.size w8 w8.drew := (Below.refl _ _).drew
    refine wp_region_held_drew (S := fun w' => w'.cell? ⟨w.heap.size, 0, none⟩ = some (.slice p n c) ∧ w'.cell? ⟨w.heap.size, 1, none⟩ = some (.int .i64 d)) (by kernel_rfl) (hkS _ hB0) (fun hHeld => ?_)
    clear hB
    generalize w8.drew = W0 at *
    refine wpAnyH_take (i := 0) (oi := _) (v := ?vvq1) rfl (by kernel_rfl) (by kernel_rfl) (by kernel_rfl) (fun _ _ _ h => h) (Or.inl ⟨by kernel_rfl, ?hyq1⟩) hHeld ?restq1
    case hyq1 => intro w hSw; (try dsimp only at hSw); (try go_split_ands); go_simp; try with_reducible rfl
    try simp only [List.getElem_toArray, List.getElem_cons_zero, Act.put, List.setIfInBounds_toArray, List.set_cons_zero, List.set_cons_succ]
    refine wpAnyH_take (i := 1) (oi := _) (v := ?vvq2) rfl (by kernel_rfl) (by kernel_rfl) (by kernel_rfl) (fun _ _ _ h => h) (Or.inl ⟨by kernel_rfl, ?hyq2⟩) hHeld ?restq2
    case hyq2 => intro w hSw; (try dsimp only at hSw); (try go_split_ands); go_simp; try with_reducible rfl
    try simp only [List.getElem_toArray, List.getElem_cons_succ, List.getElem_cons_zero, Act.put, List.setIfInBounds_toArray, List.set_cons_zero, List.set_cons_succ]
    refine wpAnyH_take (i := 2) (oi := _) (v := ?vvq3) rfl (by kernel_rfl) (by kernel_rfl) (by kernel_rfl) (fun _ _ _ h => h) (Or.inl ⟨by kernel_rfl, ?hyq3⟩) hHeld ?restq3
    case hyq3 => intro w hSw; (try dsimp only at hSw); (try go_split_ands); go_simp; try with_reducible rfl
    try simp only [List.getElem_toArray, List.getElem_cons_succ, List.getElem_cons_zero, Act.put, List.setIfInBounds_toArray, List.set_cons_zero, List.set_cons_succ]
    refine wpAnyH_take (i := 4) (oi := _) (v := ?vvq4) rfl (by kernel_rfl) (by kernel_rfl) (by kernel_rfl) (fun _ _ _ h => h) (Or.inl ⟨by kernel_rfl, ?hyq4⟩) hHeld ?restq4
    case hyq4 => intro w hSw; (try dsimp only at hSw); (try go_split_ands); go_simp; try with_reducible rfl
    try simp only [List.getElem_toArray, List.getElem_cons_succ, List.getElem_cons_zero, Act.put, List.setIfInBounds_toArray, List.set_cons_zero, List.set_cons_succ]
    refine wpAnyH_take (i := 5) (oi := _) (v := ?vvq5) rfl (by kernel_rfl) (by kernel_rfl) (by kernel_rfl) (fun _ _ _ h => h) (Or.inl ⟨by kernel_rfl, ?hyq5⟩) hHeld ?restq5
    case hyq5 => intro w hSw; (try dsimp only at hSw); (try go_split_ands); go_simp; try with_reducible rfl
    try simp only [List.getElem_toArray, List.getElem_cons_succ, List.getElem_cons_zero, Act.put, List.setIfInBounds_toArray, List.set_cons_zero, List.set_cons_succ]
    refine wpAnyH_ready (rs := [3, 8]) (by kernel_rfl) (by simp) ?_
    refine AllReadyH.cons (o := _) rfl (fun K hK => ?_) ?_
    · go_simp
      have hO6 := ownsW_lit0 W0 w8.heap.size hB0.size
      have hB6' := hB0.alloc hB0.size (.cells #[] 35)
      generalize W0.alloc (.cells #[] 35) = W6 at *
      generalize hv6 : Value.slice (some ⟨W0.heap.size, 0, none⟩) 0 0 = v6 at *
      refine hK.out _ _ (hkS _ hB6') (fun hHeld => ?_)
      clear hK K
      try simp only [List.getElem_toArray, List.getElem_cons_succ, List.getElem_cons_zero, Act.put, List.setIfInBounds_toArray, List.set_cons_zero, List.set_cons_succ]
      refine wpAnyH_ready (rs := [6, 8]) (by kernel_rfl) (by simp) ?_
      refine AllReadyH.cons (o := _) rfl (fun K hK => ?_) ?_
      · refine step_appW rfl _ _ rfl w8.heap.size v6 [] xs rfl hO6 p n c rfl HN.out (hX.on hB6') (Nat.zero_le _) HXL.out hB6'.size ?_
        intro v7 W7 hO7 hg7
        have hB7' := hB6'.grown hg7 hB6'.size (fun k e => (World.ownsRow.lt hO6 k e).1)
        rw [List.nil_append] at hO7
        obtain ⟨p7, c7, hv7, _⟩ := hO7.reads
        rw [← HN.out] at hv7
        subst hv7
        refine hK.out _ _ (hkS _ hB7') (fun hHeld => ?_)
        clear hK K
        try simp only [List.getElem_toArray, List.getElem_cons_succ, List.getElem_cons_zero, Act.put, List.setIfInBounds_toArray, List.set_cons_zero, List.set_cons_succ]
        refine wpAnyH_take (i := 7) (oi := _) (v := ?vvq8) rfl (by kernel_rfl) (by kernel_rfl) (by kernel_rfl) (fun _ _ _ h => h) (Or.inl ⟨by kernel_rfl, ?hyq8⟩) hHeld ?restq8
        case hyq8 => intro w hSw; (try dsimp only at hSw); (try go_split_ands); go_simp; try with_reducible rfl
        try simp only [List.getElem_toArray, List.getElem_cons_succ, List.getElem_cons_zero, Act.put, List.setIfInBounds_toArray, List.set_cons_zero, List.set_cons_succ]
        refine wpAnyH_ready (rs := [8]) (by kernel_rfl) (by simp) ?_
        refine AllReadyH.cons (o := _) rfl (fun K hK => ?_) AllReadyH.nil
        go_simp
        have hA9 := Box.new 24 [.slice none 0 0, .int .i64 0] W7
        have hB9' := hB7'.alloc hB7'.size (.cells #[.slice none 0 0, .int .i64 0] 24)
        have hge := hB7'.size
        have hO9 := hO7.al (.cells #[.slice none 0 0, .int .i64 0] 24)
        generalize W7.alloc (.cells #[.slice none 0 0, .int .i64 0] 24) = W9 at *
        generalize W7.heap.size = b9 at *
        refine hK.out _ _ (hkS _ hB9') (fun hHeld => ?_)
        clear hK K
        try simp only [List.getElem_toArray, List.getElem_cons_succ, List.getElem_cons_zero, Act.put, List.setIfInBounds_toArray, List.set_cons_zero, List.set_cons_succ]
        refine wpAnyH_ready (rs := [9]) (by kernel_rfl) (by simp) ?_
        refine AllReadyH.cons (o := _) rfl (fun K hK => ?_) AllReadyH.nil
        have z0 := hA9.cell (j := 0) (v := .slice none 0 0) rfl
        have z1 := hA9.cell (j := 1) (v := .int .i64 0) rfl
        have y0 := hA9.fz 0
        have y1 := hA9.fz 1
        go_simp
        clear z0 z1 y0 y1
        have hA10 : Box 24 b9 [(.slice p7 n c7), .int .i64 (32768 - d)] ((W9.setCell ⟨b9, 0, none⟩ ((.slice p7 n c7))).setCell ⟨b9, 1, none⟩ (.int .i64 (32768 - d))) := (hA9.set 0 _).set 1 _
        have hO10 := (hO9.far hA9 (by decide) 0 ((.slice p7 n c7))).far (hA9.set 0 ((.slice p7 n c7))) (by decide) 1 (.int .i64 (32768 - d))
        have hB10' := (hB9'.setCell (p := ⟨b9, 0, none⟩) hge ((.slice p7 n c7))).setCell (p := ⟨b9, 1, none⟩) hge (.int .i64 (32768 - d))
        generalize ((W9.setCell ⟨b9, 0, none⟩ ((.slice p7 n c7))).setCell ⟨b9, 1, none⟩ (.int .i64 (32768 - d))) = W10 at *
        refine hK.out _ _ (hkS _ hB10') (fun hHeld => ?_)
        clear hK K
        try simp only [List.getElem_toArray, List.getElem_cons_succ, List.getElem_cons_zero, Act.put, List.setIfInBounds_toArray, List.set_cons_zero, List.set_cons_succ]
        refine wpAnyH_done (by kernel_rfl) ?_ _
        go_wp2_with fail
        go_meet
        exact ⟨b9, _, _, rfl, hge, hA10, hO10, hB10'⟩
      refine AllReadyH.cons (o := _) rfl (fun K hK => ?_) AllReadyH.nil
      · go_simp
        have hA11 := Box.new 24 [.slice none 0 0, .int .i64 0] W6
        have hB11' := hB6'.alloc hB6'.size (.cells #[.slice none 0 0, .int .i64 0] 24)
        have hge := hB6'.size
        have hO11 := hO6.al (.cells #[.slice none 0 0, .int .i64 0] 24)
        generalize W6.alloc (.cells #[.slice none 0 0, .int .i64 0] 24) = W11 at *
        generalize W6.heap.size = b11 at *
        refine hK.out _ _ (hkS _ hB11') (fun hHeld => ?_)
        clear hK K
        try simp only [List.getElem_toArray, List.getElem_cons_succ, List.getElem_cons_zero, Act.put, List.setIfInBounds_toArray, List.set_cons_zero, List.set_cons_succ]
        refine wpAnyH_ready (rs := [6]) (by kernel_rfl) (by simp) ?_
        refine AllReadyH.cons (o := _) rfl (fun K hK => ?_) AllReadyH.nil
        refine step_appW rfl _ _ rfl w8.heap.size v6 [] xs rfl hO11 p n c rfl HN.out (hX.on hB11') (Nat.zero_le _) HXL.out hB11'.size ?_
        intro v12 W12 hO12 hg12
        have hB12' := hB11'.grown hg12 hB11'.size (fun k e => (World.ownsRow.lt hO11 k e).1)
        rw [List.nil_append] at hO12
        obtain ⟨p12, c12, hv12, _⟩ := hO12.reads
        rw [← HN.out] at hv12
        subst hv12
        have hA12 := box_grown hA11 hg12 (hO11.apart hA11 (by decide))
        refine hK.out _ _ (hkS _ hB12') (fun hHeld => ?_)
        clear hK K
        try simp only [List.getElem_toArray, List.getElem_cons_succ, List.getElem_cons_zero, Act.put, List.setIfInBounds_toArray, List.set_cons_zero, List.set_cons_succ]
        refine wpAnyH_take (i := 7) (oi := _) (v := ?vvq13) rfl (by kernel_rfl) (by kernel_rfl) (by kernel_rfl) (fun _ _ _ h => h) (Or.inl ⟨by kernel_rfl, ?hyq13⟩) hHeld ?restq13
        case hyq13 => intro w hSw; (try dsimp only at hSw); (try go_split_ands); go_simp; try with_reducible rfl
        try simp only [List.getElem_toArray, List.getElem_cons_succ, List.getElem_cons_zero, Act.put, List.setIfInBounds_toArray, List.set_cons_zero, List.set_cons_succ]
        refine wpAnyH_ready (rs := [9]) (by kernel_rfl) (by simp) ?_
        refine AllReadyH.cons (o := _) rfl (fun K hK => ?_) AllReadyH.nil
        have z0 := hA12.cell (j := 0) (v := .slice none 0 0) rfl
        have z1 := hA12.cell (j := 1) (v := .int .i64 0) rfl
        have y0 := hA12.fz 0
        have y1 := hA12.fz 1
        go_simp
        clear z0 z1 y0 y1
        have hA14 : Box 24 b11 [(.slice p12 n c12), .int .i64 (32768 - d)] ((W12.setCell ⟨b11, 0, none⟩ ((.slice p12 n c12))).setCell ⟨b11, 1, none⟩ (.int .i64 (32768 - d))) := (hA12.set 0 _).set 1 _
        have hO14 := (hO12.far hA12 (by decide) 0 ((.slice p12 n c12))).far (hA12.set 0 ((.slice p12 n c12))) (by decide) 1 (.int .i64 (32768 - d))
        have hB14' := (hB12'.setCell (p := ⟨b11, 0, none⟩) hge ((.slice p12 n c12))).setCell (p := ⟨b11, 1, none⟩) hge (.int .i64 (32768 - d))
        generalize ((W12.setCell ⟨b11, 0, none⟩ ((.slice p12 n c12))).setCell ⟨b11, 1, none⟩ (.int .i64 (32768 - d))) = W14 at *
        refine hK.out _ _ (hkS _ hB14') (fun hHeld => ?_)
        clear hK K
        try simp only [List.getElem_toArray, List.getElem_cons_succ, List.getElem_cons_zero, Act.put, List.setIfInBounds_toArray, List.set_cons_zero, List.set_cons_succ]
        refine wpAnyH_done (by kernel_rfl) ?_ _
        go_wp2_with fail
        go_meet
        exact ⟨b11, _, _, rfl, hge, hA14, hO14, hB14'⟩
    refine AllReadyH.cons (o := _) rfl (fun K hK => ?_) AllReadyH.nil
    · go_simp
      have hA15 := Box.new 24 [.slice none 0 0, .int .i64 0] W0
      have hB15' := hB0.alloc hB0.size (.cells #[.slice none 0 0, .int .i64 0] 24)
      have hge := hB0.size
      generalize W0.alloc (.cells #[.slice none 0 0, .int .i64 0] 24) = W15 at *
      generalize W0.heap.size = b15 at *
      refine hK.out _ _ (hkS _ hB15') (fun hHeld => ?_)
      clear hK K
      try simp only [List.getElem_toArray, List.getElem_cons_succ, List.getElem_cons_zero, Act.put, List.setIfInBounds_toArray, List.set_cons_zero, List.set_cons_succ]
      refine wpAnyH_ready (rs := [3]) (by kernel_rfl) (by simp) ?_
      refine AllReadyH.cons (o := _) rfl (fun K hK => ?_) AllReadyH.nil
      go_simp
      have hO16 := ownsW_lit0 W15 w8.heap.size hB15'.size
      have hB16' := hB15'.alloc hB15'.size (.cells #[] 35)
      have hA16 := hA15.al (.cells #[] 35)
      generalize W15.alloc (.cells #[] 35) = W16 at *
      generalize hv16 : Value.slice (some ⟨W15.heap.size, 0, none⟩) 0 0 = v16 at *
      refine hK.out _ _ (hkS _ hB16') (fun hHeld => ?_)
      clear hK K
      try simp only [List.getElem_toArray, List.getElem_cons_succ, List.getElem_cons_zero, Act.put, List.setIfInBounds_toArray, List.set_cons_zero, List.set_cons_succ]
      refine wpAnyH_ready (rs := [6]) (by kernel_rfl) (by simp) ?_
      refine AllReadyH.cons (o := _) rfl (fun K hK => ?_) AllReadyH.nil
      refine step_appW rfl _ _ rfl w8.heap.size v16 [] xs rfl hO16 p n c rfl HN.out (hX.on hB16') (Nat.zero_le _) HXL.out hB16'.size ?_
      intro v17 W17 hO17 hg17
      have hB17' := hB16'.grown hg17 hB16'.size (fun k e => (World.ownsRow.lt hO16 k e).1)
      rw [List.nil_append] at hO17
      obtain ⟨p17, c17, hv17, _⟩ := hO17.reads
      rw [← HN.out] at hv17
      subst hv17
      have hA17 := box_grown hA16 hg17 (hO16.apart hA16 (by decide))
      refine hK.out _ _ (hkS _ hB17') (fun hHeld => ?_)
      clear hK K
      try simp only [List.getElem_toArray, List.getElem_cons_succ, List.getElem_cons_zero, Act.put, List.setIfInBounds_toArray, List.set_cons_zero, List.set_cons_succ]
      refine wpAnyH_take (i := 7) (oi := _) (v := ?vvq18) rfl (by kernel_rfl) (by kernel_rfl) (by kernel_rfl) (fun _ _ _ h => h) (Or.inl ⟨by kernel_rfl, ?hyq18⟩) hHeld ?restq18
      case hyq18 => intro w hSw; (try dsimp only at hSw); (try go_split_ands); go_simp; try with_reducible rfl
      try simp only [List.getElem_toArray, List.getElem_cons_succ, List.getElem_cons_zero, Act.put, List.setIfInBounds_toArray, List.set_cons_zero, List.set_cons_succ]
      refine wpAnyH_ready (rs := [9]) (by kernel_rfl) (by simp) ?_
      refine AllReadyH.cons (o := _) rfl (fun K hK => ?_) AllReadyH.nil
      have z0 := hA17.cell (j := 0) (v := .slice none 0 0) rfl
      have z1 := hA17.cell (j := 1) (v := .int .i64 0) rfl
      have y0 := hA17.fz 0
      have y1 := hA17.fz 1
      go_simp
      clear z0 z1 y0 y1
      have hA19 : Box 24 b15 [(.slice p17 n c17), .int .i64 (32768 - d)] ((W17.setCell ⟨b15, 0, none⟩ ((.slice p17 n c17))).setCell ⟨b15, 1, none⟩ (.int .i64 (32768 - d))) := (hA17.set 0 _).set 1 _
      have hO19 := (hO17.far hA17 (by decide) 0 ((.slice p17 n c17))).far (hA17.set 0 ((.slice p17 n c17))) (by decide) 1 (.int .i64 (32768 - d))
      have hB19' := (hB17'.setCell (p := ⟨b15, 0, none⟩) hge ((.slice p17 n c17))).setCell (p := ⟨b15, 1, none⟩) hge (.int .i64 (32768 - d))
      generalize ((W17.setCell ⟨b15, 0, none⟩ ((.slice p17 n c17))).setCell ⟨b15, 1, none⟩ (.int .i64 (32768 - d))) = W19 at *
      refine hK.out _ _ (hkS _ hB19') (fun hHeld => ?_)
      clear hK K
      try simp only [List.getElem_toArray, List.getElem_cons_succ, List.getElem_cons_zero, Act.put, List.setIfInBounds_toArray, List.set_cons_zero, List.set_cons_succ]
      refine wpAnyH_done (by kernel_rfl) ?_ _
      go_wp2_with fail
      go_meet
      exact ⟨b15, _, _, rfl, hge, hA19, hO19, hB19'⟩
  obtain ⟨bc, pv, cv, rfl, hgc, hC, hO, hD⟩ := hcut
  replace hI := hI.on hD
  replace hK := hK.on hD
  replace hX := hX.on hD
  replace hY := hY.on hD
  replace hB := hB.trans (hD.mono hB.size)
  clear hD
  have hgB := Nat.le_trans hszB hgc
  clear hszB hgc
  have chC0 := hC.cell (j := 0) (v := .slice pv n cv) rfl
  have chC1 := hC.cell (j := 1) (v := .int .i64 (32768 - d)) rfl
  go_wp2_with fail
  clear chC0 chC1
  have hR4 := hO.reads
  clear hX
  refine (cput8_val pv n cv (32768 - d) xs t2 wc HN.out HBD.out hR4 H3.out HT2.out).mono ?_
  rintro e w9 ⟨rfl, hD⟩
  replace hI := hI.on hD
  replace hK := hK.on hD
  replace hC := hC.on hD
  replace hY := hY.on hD
  replace hO := hO.on hD
  replace hB := hB.trans (hD.mono hB.size)
  clear hD
  have chI0 := hI.cell (j := 0) (v := .slice p n c) rfl
  have chI1 := hI.cell (j := 1) (v := .int .i64 d) rfl
  go_wp2_with fail
  clear chI0 chI1
  go_ret
  exact ⟨rfl, hB⟩
set_option maxHeartbeats 8000000 in
set_option maxRecDepth 100000 in
theorem iap_hi (p p' : Option Addr) (n n' c c' : Nat) (d d' a : Int) (w : World) (xs ys : List Int) (hn : n = xs.length) (hn' : n' = ys.length) (hb : Bd xs) (hb' : Bd ys) (hX : RdW w (.slice p n c) xs) (hY : RdW w (.slice p' n' c') ys) (hc : n ≤ c) (hcm : c ≤ maxLen) (hc' : n' ≤ c') (hcm' : c' ≤ maxLen) (h : ¬ 500 < n) (h2 : ¬ 500 < n') (r : rightM n d = true) (r2 : rightM n' d' = true) (ha : (n : Int) ≤ a) : Calls Try.prog 7 #[.agg #[.slice p n c, .int .i64 d], .agg #[.slice p' n' c', .int .i64 d'], .int .i64 a] w fun e w' => e = .returned (.bool true) ∧ Below w.heap.size w w' := by
  have g1 : decide ((500 : Int) < (n : Int)) = false := decide_eq_false (by omega)
  have g2 : decide ((500 : Int) < (n' : Int)) = false := decide_eq_false (by omega)
  obtain ⟨t, ht⟩ : ∃ t : ByteArray, t = ⟨(putL d xs).toArray⟩ := ⟨_, rfl⟩
  obtain ⟨u, hu⟩ : ∃ t : ByteArray, t = ⟨(putL d' ys).toArray⟩ := ⟨_, rfl⟩
  have hI : ImgAt t n d xs := by rw [ht, hn]; exact img_put hb (by rw [← hn]; exact r)
  have hI' : ImgAt u n' d' ys := by rw [hu, hn']; exact img_put hb' (by rw [← hn']; exact r2)
  obtain ⟨gs, hgs⟩ : ∃ g, sameM xs ys d d' = g := ⟨_, rfl⟩
  have heq := apart_same hI hI'
  rw [hgs] at heq
  have hne : ((t.toList == u.toList) != gs) = false := by rw [heq]; exact bne_self_eq_false _
  have g3 : decide (a < 0) = false := decide_eq_false (by omega)
  have g4 : decide ((n : Int) ≤ a) = true := decide_eq_true ha
  obtain ⟨t2, ht2⟩ : ∃ t : ByteArray, t = ⟨(putL (32768 - d) xs).toArray⟩ := ⟨_, rfl⟩
  have r3 : rightM n (32768 - d) = true := by unfold rightM at r ⊢; simp at r ⊢; omega
  have hI3 : ImgAt t2 n (32768 - d) xs := by rw [ht2, hn]; exact img_put hb (by rw [← hn]; exact r3)
  have heq2 : (t2.toList == t.toList) = (d == 16384) := by rw [apart_same hI3 hI, Bool.eq_iff_iff, same_iff, beq_iff_eq]; exact ⟨fun h => by omega, fun h => ⟨by omega, rfl⟩⟩
  have hne2 : ((t2.toList == t.toList) != (d == 16384)) = false := by rw [heq2]; exact bne_self_eq_false _
  have H3 := Lib.hid r3
  have HT2 := Lib.hid ht2
  clear r3 ht2 hI3
  have HXL : Hid (xs.length ≤ 100000) := by show _ ≤ _; omega
  have hdw : IntKind.i64.wrap (32768 - d) = 32768 - d := by unfold rightM at r; simp at r; exact IntWalk.i64_in _ (by omega)
  have HM1 : Hid (xs.length ≤ 1000000) := by show _ ≤ _; omega
  have HM2 : Hid (ys.length ≤ 1000000) := by show _ ≤ _; omega
  have H := Lib.hid r
  have H2 := Lib.hid r2
  have HN := Lib.hid hn
  have HN2 := Lib.hid hn'
  have HT := Lib.hid ht
  have HU := Lib.hid hu
  have HBD := Lib.hid hb
  have HBD2 := Lib.hid hb'
  have HGS := Lib.hid hgs
  have HC1 := Lib.hid hc
  have HC2 := Lib.hid hcm
  have HC3 := Lib.hid hc'
  have HC4 := Lib.hid hcm'
  clear h h2 r r2 hn hn' ht hu hb hb' hI hI' hgs hc hcm hc' hcm'
  obtain ⟨w1, hw1⟩ : ∃ w', w.alloc (.cells #[.slice p n c, .int .i64 d] 24) = w' := ⟨_, rfl⟩
  have hI : Box 24 w.heap.size [.slice p n c, .int .i64 d] w1 := by rw [← hw1]; exact Box.new 24 [.slice p n c, .int .i64 d] w
  have hD : Below w.heap.size w w1 := by rw [← hw1]; exact (Below.refl _ _).alloc (Nat.le_refl _) _
  replace hX := hX.on hD
  replace hY := hY.on hD
  have hB := hD
  clear hD
  obtain ⟨w2, hw2⟩ : ∃ w', w1.alloc (.cells #[.slice p' n' c', .int .i64 d'] 24) = w' := ⟨_, rfl⟩
  have hK : Box 24 w1.heap.size [.slice p' n' c', .int .i64 d'] w2 := by rw [← hw2]; exact Box.new 24 [.slice p' n' c', .int .i64 d'] w1
  have hD : Below w1.heap.size w1 w2 := by rw [← hw2]; exact (Below.refl _ _).alloc (Nat.le_refl _) _
  replace hI := hI.on hD
  replace hX := hX.on hD
  replace hY := hY.on hD
  replace hB := hB.trans (hD.mono hB.size)
  clear hD
  go_enter Try.func7, Try.ntmps7
  go_wp2_with fail
  clear hw1 hw2
  refine (awake8_any w2).mono ?_
  rintro e w3 ⟨rfl, hD⟩
  replace hI := hI.on hD
  replace hK := hK.on hD
  replace hX := hX.on hD
  replace hY := hY.on hD
  replace hB := hB.trans (hD.mono hB.size)
  clear hD
  have chI0 := hI.cell (j := 0) (v := .slice p n c) rfl
  have chI1 := hI.cell (j := 1) (v := .int .i64 d) rfl
  have chK0 := hK.cell (j := 0) (v := .slice p' n' c') rfl
  have chK1 := hK.cell (j := 1) (v := .int .i64 d') rfl
  go_wp2_with fail
  clear chI0 chI1 chK0 chK1
  refine (rright8_val p n c d true w3 H.out).mono ?_
  rintro e w4 ⟨rfl, hD⟩
  replace hI := hI.on hD
  replace hK := hK.on hD
  replace hX := hX.on hD
  replace hY := hY.on hD
  replace hB := hB.trans (hD.mono hB.size)
  clear hD
  have chK0 := hK.cell (j := 0) (v := .slice p' n' c') rfl
  have chK1 := hK.cell (j := 1) (v := .int .i64 d') rfl
  go_wp2_with fail
  clear chK0 chK1
  refine (rright8_val p' n' c' d' true w4 H2.out).mono ?_
  rintro e w5 ⟨rfl, hD⟩
  replace hI := hI.on hD
  replace hK := hK.on hD
  replace hX := hX.on hD
  replace hY := hY.on hD
  replace hB := hB.trans (hD.mono hB.size)
  clear hD
  have chI0 := hI.cell (j := 0) (v := .slice p n c) rfl
  have chI1 := hI.cell (j := 1) (v := .int .i64 d) rfl
  go_wp2_with fail
  clear chI0 chI1
  refine (cput8_val p n c d xs t w5 HN.out HBD.out hX H.out HT.out).mono ?_
  rintro e w6 ⟨rfl, hD⟩
  replace hI := hI.on hD
  replace hK := hK.on hD
  replace hX := hX.on hD
  replace hY := hY.on hD
  replace hB := hB.trans (hD.mono hB.size)
  clear hD
  have chK0 := hK.cell (j := 0) (v := .slice p' n' c') rfl
  have chK1 := hK.cell (j := 1) (v := .int .i64 d') rfl
  go_wp2_with fail
  clear chK0 chK1
  refine (cput8_val p' n' c' d' ys u w6 HN2.out HBD2.out hY H2.out HU.out).mono ?_
  rintro e w7 ⟨rfl, hD⟩
  replace hI := hI.on hD
  replace hK := hK.on hD
  replace hX := hX.on hD
  replace hY := hY.on hD
  replace hB := hB.trans (hD.mono hB.size)
  clear hD
  have chI0 := hI.cell (j := 0) (v := .slice p n c) rfl
  have chI1 := hI.cell (j := 1) (v := .int .i64 d) rfl
  have chK0 := hK.cell (j := 0) (v := .slice p' n' c') rfl
  have chK1 := hK.cell (j := 1) (v := .int .i64 d') rfl
  go_wp2_with fail
  clear chI0 chI1 chK0 chK1
  refine (csame8_val p p' n n' c c' xs ys d d' gs w7 HN.out HN2.out HM1.out HM2.out hX hY HC1.out HC2.out HC3.out HC4.out HGS.out).mono ?_
  rintro e w8 ⟨rfl, hD⟩
  replace hI := hI.on hD
  replace hK := hK.on hD
  replace hX := hX.on hD
  replace hY := hY.on hD
  replace hB := hB.trans (hD.mono hB.size)
  clear hD
  have hszB := hB.size
  go_upto_region 9 with fail
  go_cut [11] from 55 to 62 (fun sa wx => ∃ bc pv cv, sa = .pointer (some ⟨bc, 0, none⟩) ∧ w8.heap.size ≤ bc ∧ Box 24 bc [.slice pv n cv, .int .i64 (32768 - d)] wx ∧ OwnsW w8.heap.size (.slice pv n cv) xs wx ∧ Below w8.heap.size w8 wx)
  case first =>
    have hkS : ∀ W : World, Below w8.heap.size w8 W → (W.cell? ⟨w.heap.size, 0, none⟩ = some (.slice p n c) ∧ W.cell? ⟨w.heap.size, 1, none⟩ = some (.int .i64 d)) := fun W h => ⟨(hI.on h).cell (j := 0) rfl, (hI.on h).cell (j := 1) rfl⟩
    have hB0 : Below w8.heap.size w8 w8.drew := (Below.refl _ _).drew
    refine wp_region_held_drew (S := fun w' => w'.cell? ⟨w.heap.size, 0, none⟩ = some (.slice p n c) ∧ w'.cell? ⟨w.heap.size, 1, none⟩ = some (.int .i64 d)) (by kernel_rfl) (hkS _ hB0) (fun hHeld => ?_)
    clear hB
    generalize w8.drew = W0 at *
    refine wpAnyH_take (i := 0) (oi := _) (v := ?vvq20) rfl (by kernel_rfl) (by kernel_rfl) (by kernel_rfl) (fun _ _ _ h => h) (Or.inl ⟨by kernel_rfl, ?hyq20⟩) hHeld ?restq20
    case hyq20 => intro w hSw; (try dsimp only at hSw); (try go_split_ands); go_simp; try with_reducible rfl
    try simp only [List.getElem_toArray, List.getElem_cons_zero, Act.put, List.setIfInBounds_toArray, List.set_cons_zero, List.set_cons_succ]
    refine wpAnyH_take (i := 1) (oi := _) (v := ?vvq21) rfl (by kernel_rfl) (by kernel_rfl) (by kernel_rfl) (fun _ _ _ h => h) (Or.inl ⟨by kernel_rfl, ?hyq21⟩) hHeld ?restq21
    case hyq21 => intro w hSw; (try dsimp only at hSw); (try go_split_ands); go_simp; try with_reducible rfl
    try simp only [List.getElem_toArray, List.getElem_cons_succ, List.getElem_cons_zero, Act.put, List.setIfInBounds_toArray, List.set_cons_zero, List.set_cons_succ]
    refine wpAnyH_take (i := 2) (oi := _) (v := ?vvq22) rfl (by kernel_rfl) (by kernel_rfl) (by kernel_rfl) (fun _ _ _ h => h) (Or.inl ⟨by kernel_rfl, ?hyq22⟩) hHeld ?restq22
    case hyq22 => intro w hSw; (try dsimp only at hSw); (try go_split_ands); go_simp; try with_reducible rfl
    try simp only [List.getElem_toArray, List.getElem_cons_succ, List.getElem_cons_zero, Act.put, List.setIfInBounds_toArray, List.set_cons_zero, List.set_cons_succ]
    refine wpAnyH_take (i := 4) (oi := _) (v := ?vvq23) rfl (by kernel_rfl) (by kernel_rfl) (by kernel_rfl) (fun _ _ _ h => h) (Or.inl ⟨by kernel_rfl, ?hyq23⟩) hHeld ?restq23
    case hyq23 => intro w hSw; (try dsimp only at hSw); (try go_split_ands); go_simp; try with_reducible rfl
    try simp only [List.getElem_toArray, List.getElem_cons_succ, List.getElem_cons_zero, Act.put, List.setIfInBounds_toArray, List.set_cons_zero, List.set_cons_succ]
    refine wpAnyH_take (i := 5) (oi := _) (v := ?vvq24) rfl (by kernel_rfl) (by kernel_rfl) (by kernel_rfl) (fun _ _ _ h => h) (Or.inl ⟨by kernel_rfl, ?hyq24⟩) hHeld ?restq24
    case hyq24 => intro w hSw; (try dsimp only at hSw); (try go_split_ands); go_simp; try with_reducible rfl
    try simp only [List.getElem_toArray, List.getElem_cons_succ, List.getElem_cons_zero, Act.put, List.setIfInBounds_toArray, List.set_cons_zero, List.set_cons_succ]
    refine wpAnyH_ready (rs := [3, 8]) (by kernel_rfl) (by simp) ?_
    refine AllReadyH.cons (o := _) rfl (fun K hK => ?_) ?_
    · go_simp
      have hO25 := ownsW_lit0 W0 w8.heap.size hB0.size
      have hB25' := hB0.alloc hB0.size (.cells #[] 35)
      generalize W0.alloc (.cells #[] 35) = W25 at *
      generalize hv25 : Value.slice (some ⟨W0.heap.size, 0, none⟩) 0 0 = v25 at *
      refine hK.out _ _ (hkS _ hB25') (fun hHeld => ?_)
      clear hK K
      try simp only [List.getElem_toArray, List.getElem_cons_succ, List.getElem_cons_zero, Act.put, List.setIfInBounds_toArray, List.set_cons_zero, List.set_cons_succ]
      refine wpAnyH_ready (rs := [6, 8]) (by kernel_rfl) (by simp) ?_
      refine AllReadyH.cons (o := _) rfl (fun K hK => ?_) ?_
      · refine step_appW rfl _ _ rfl w8.heap.size v25 [] xs rfl hO25 p n c rfl HN.out (hX.on hB25') (Nat.zero_le _) HXL.out hB25'.size ?_
        intro v26 W26 hO26 hg26
        have hB26' := hB25'.grown hg26 hB25'.size (fun k e => (World.ownsRow.lt hO25 k e).1)
        rw [List.nil_append] at hO26
        obtain ⟨p26, c26, hv26, _⟩ := hO26.reads
        rw [← HN.out] at hv26
        subst hv26
        refine hK.out _ _ (hkS _ hB26') (fun hHeld => ?_)
        clear hK K
        try simp only [List.getElem_toArray, List.getElem_cons_succ, List.getElem_cons_zero, Act.put, List.setIfInBounds_toArray, List.set_cons_zero, List.set_cons_succ]
        refine wpAnyH_take (i := 7) (oi := _) (v := ?vvq27) rfl (by kernel_rfl) (by kernel_rfl) (by kernel_rfl) (fun _ _ _ h => h) (Or.inl ⟨by kernel_rfl, ?hyq27⟩) hHeld ?restq27
        case hyq27 => intro w hSw; (try dsimp only at hSw); (try go_split_ands); go_simp; try with_reducible rfl
        try simp only [List.getElem_toArray, List.getElem_cons_succ, List.getElem_cons_zero, Act.put, List.setIfInBounds_toArray, List.set_cons_zero, List.set_cons_succ]
        refine wpAnyH_ready (rs := [8]) (by kernel_rfl) (by simp) ?_
        refine AllReadyH.cons (o := _) rfl (fun K hK => ?_) AllReadyH.nil
        go_simp
        have hA28 := Box.new 24 [.slice none 0 0, .int .i64 0] W26
        have hB28' := hB26'.alloc hB26'.size (.cells #[.slice none 0 0, .int .i64 0] 24)
        have hge := hB26'.size
        have hO28 := hO26.al (.cells #[.slice none 0 0, .int .i64 0] 24)
        generalize W26.alloc (.cells #[.slice none 0 0, .int .i64 0] 24) = W28 at *
        generalize W26.heap.size = b28 at *
        refine hK.out _ _ (hkS _ hB28') (fun hHeld => ?_)
        clear hK K
        try simp only [List.getElem_toArray, List.getElem_cons_succ, List.getElem_cons_zero, Act.put, List.setIfInBounds_toArray, List.set_cons_zero, List.set_cons_succ]
        refine wpAnyH_ready (rs := [9]) (by kernel_rfl) (by simp) ?_
        refine AllReadyH.cons (o := _) rfl (fun K hK => ?_) AllReadyH.nil
        have z0 := hA28.cell (j := 0) (v := .slice none 0 0) rfl
        have z1 := hA28.cell (j := 1) (v := .int .i64 0) rfl
        have y0 := hA28.fz 0
        have y1 := hA28.fz 1
        go_simp
        clear z0 z1 y0 y1
        have hA29 : Box 24 b28 [(.slice p26 n c26), .int .i64 (32768 - d)] ((W28.setCell ⟨b28, 0, none⟩ ((.slice p26 n c26))).setCell ⟨b28, 1, none⟩ (.int .i64 (32768 - d))) := (hA28.set 0 _).set 1 _
        have hO29 := (hO28.far hA28 (by decide) 0 ((.slice p26 n c26))).far (hA28.set 0 ((.slice p26 n c26))) (by decide) 1 (.int .i64 (32768 - d))
        have hB29' := (hB28'.setCell (p := ⟨b28, 0, none⟩) hge ((.slice p26 n c26))).setCell (p := ⟨b28, 1, none⟩) hge (.int .i64 (32768 - d))
        generalize ((W28.setCell ⟨b28, 0, none⟩ ((.slice p26 n c26))).setCell ⟨b28, 1, none⟩ (.int .i64 (32768 - d))) = W29 at *
        refine hK.out _ _ (hkS _ hB29') (fun hHeld => ?_)
        clear hK K
        try simp only [List.getElem_toArray, List.getElem_cons_succ, List.getElem_cons_zero, Act.put, List.setIfInBounds_toArray, List.set_cons_zero, List.set_cons_succ]
        refine wpAnyH_done (by kernel_rfl) ?_ _
        go_wp2_with fail
        go_meet
        exact ⟨b28, _, _, rfl, hge, hA29, hO29, hB29'⟩
      refine AllReadyH.cons (o := _) rfl (fun K hK => ?_) AllReadyH.nil
      · go_simp
        have hA30 := Box.new 24 [.slice none 0 0, .int .i64 0] W25
        have hB30' := hB25'.alloc hB25'.size (.cells #[.slice none 0 0, .int .i64 0] 24)
        have hge := hB25'.size
        have hO30 := hO25.al (.cells #[.slice none 0 0, .int .i64 0] 24)
        generalize W25.alloc (.cells #[.slice none 0 0, .int .i64 0] 24) = W30 at *
        generalize W25.heap.size = b30 at *
        refine hK.out _ _ (hkS _ hB30') (fun hHeld => ?_)
        clear hK K
        try simp only [List.getElem_toArray, List.getElem_cons_succ, List.getElem_cons_zero, Act.put, List.setIfInBounds_toArray, List.set_cons_zero, List.set_cons_succ]
        refine wpAnyH_ready (rs := [6]) (by kernel_rfl) (by simp) ?_
        refine AllReadyH.cons (o := _) rfl (fun K hK => ?_) AllReadyH.nil
        refine step_appW rfl _ _ rfl w8.heap.size v25 [] xs rfl hO30 p n c rfl HN.out (hX.on hB30') (Nat.zero_le _) HXL.out hB30'.size ?_
        intro v31 W31 hO31 hg31
        have hB31' := hB30'.grown hg31 hB30'.size (fun k e => (World.ownsRow.lt hO30 k e).1)
        rw [List.nil_append] at hO31
        obtain ⟨p31, c31, hv31, _⟩ := hO31.reads
        rw [← HN.out] at hv31
        subst hv31
        have hA31 := box_grown hA30 hg31 (hO30.apart hA30 (by decide))
        refine hK.out _ _ (hkS _ hB31') (fun hHeld => ?_)
        clear hK K
        try simp only [List.getElem_toArray, List.getElem_cons_succ, List.getElem_cons_zero, Act.put, List.setIfInBounds_toArray, List.set_cons_zero, List.set_cons_succ]
        refine wpAnyH_take (i := 7) (oi := _) (v := ?vvq32) rfl (by kernel_rfl) (by kernel_rfl) (by kernel_rfl) (fun _ _ _ h => h) (Or.inl ⟨by kernel_rfl, ?hyq32⟩) hHeld ?restq32
        case hyq32 => intro w hSw; (try dsimp only at hSw); (try go_split_ands); go_simp; try with_reducible rfl
        try simp only [List.getElem_toArray, List.getElem_cons_succ, List.getElem_cons_zero, Act.put, List.setIfInBounds_toArray, List.set_cons_zero, List.set_cons_succ]
        refine wpAnyH_ready (rs := [9]) (by kernel_rfl) (by simp) ?_
        refine AllReadyH.cons (o := _) rfl (fun K hK => ?_) AllReadyH.nil
        have z0 := hA31.cell (j := 0) (v := .slice none 0 0) rfl
        have z1 := hA31.cell (j := 1) (v := .int .i64 0) rfl
        have y0 := hA31.fz 0
        have y1 := hA31.fz 1
        go_simp
        clear z0 z1 y0 y1
        have hA33 : Box 24 b30 [(.slice p31 n c31), .int .i64 (32768 - d)] ((W31.setCell ⟨b30, 0, none⟩ ((.slice p31 n c31))).setCell ⟨b30, 1, none⟩ (.int .i64 (32768 - d))) := (hA31.set 0 _).set 1 _
        have hO33 := (hO31.far hA31 (by decide) 0 ((.slice p31 n c31))).far (hA31.set 0 ((.slice p31 n c31))) (by decide) 1 (.int .i64 (32768 - d))
        have hB33' := (hB31'.setCell (p := ⟨b30, 0, none⟩) hge ((.slice p31 n c31))).setCell (p := ⟨b30, 1, none⟩) hge (.int .i64 (32768 - d))
        generalize ((W31.setCell ⟨b30, 0, none⟩ ((.slice p31 n c31))).setCell ⟨b30, 1, none⟩ (.int .i64 (32768 - d))) = W33 at *
        refine hK.out _ _ (hkS _ hB33') (fun hHeld => ?_)
        clear hK K
        try simp only [List.getElem_toArray, List.getElem_cons_succ, List.getElem_cons_zero, Act.put, List.setIfInBounds_toArray, List.set_cons_zero, List.set_cons_succ]
        refine wpAnyH_done (by kernel_rfl) ?_ _
        go_wp2_with fail
        go_meet
        exact ⟨b30, _, _, rfl, hge, hA33, hO33, hB33'⟩
    refine AllReadyH.cons (o := _) rfl (fun K hK => ?_) AllReadyH.nil
    · go_simp
      have hA34 := Box.new 24 [.slice none 0 0, .int .i64 0] W0
      have hB34' := hB0.alloc hB0.size (.cells #[.slice none 0 0, .int .i64 0] 24)
      have hge := hB0.size
      generalize W0.alloc (.cells #[.slice none 0 0, .int .i64 0] 24) = W34 at *
      generalize W0.heap.size = b34 at *
      refine hK.out _ _ (hkS _ hB34') (fun hHeld => ?_)
      clear hK K
      try simp only [List.getElem_toArray, List.getElem_cons_succ, List.getElem_cons_zero, Act.put, List.setIfInBounds_toArray, List.set_cons_zero, List.set_cons_succ]
      refine wpAnyH_ready (rs := [3]) (by kernel_rfl) (by simp) ?_
      refine AllReadyH.cons (o := _) rfl (fun K hK => ?_) AllReadyH.nil
      go_simp
      have hO35 := ownsW_lit0 W34 w8.heap.size hB34'.size
      have hB35' := hB34'.alloc hB34'.size (.cells #[] 35)
      have hA35 := hA34.al (.cells #[] 35)
      generalize W34.alloc (.cells #[] 35) = W35 at *
      generalize hv35 : Value.slice (some ⟨W34.heap.size, 0, none⟩) 0 0 = v35 at *
      refine hK.out _ _ (hkS _ hB35') (fun hHeld => ?_)
      clear hK K
      try simp only [List.getElem_toArray, List.getElem_cons_succ, List.getElem_cons_zero, Act.put, List.setIfInBounds_toArray, List.set_cons_zero, List.set_cons_succ]
      refine wpAnyH_ready (rs := [6]) (by kernel_rfl) (by simp) ?_
      refine AllReadyH.cons (o := _) rfl (fun K hK => ?_) AllReadyH.nil
      refine step_appW rfl _ _ rfl w8.heap.size v35 [] xs rfl hO35 p n c rfl HN.out (hX.on hB35') (Nat.zero_le _) HXL.out hB35'.size ?_
      intro v36 W36 hO36 hg36
      have hB36' := hB35'.grown hg36 hB35'.size (fun k e => (World.ownsRow.lt hO35 k e).1)
      rw [List.nil_append] at hO36
      obtain ⟨p36, c36, hv36, _⟩ := hO36.reads
      rw [← HN.out] at hv36
      subst hv36
      have hA36 := box_grown hA35 hg36 (hO35.apart hA35 (by decide))
      refine hK.out _ _ (hkS _ hB36') (fun hHeld => ?_)
      clear hK K
      try simp only [List.getElem_toArray, List.getElem_cons_succ, List.getElem_cons_zero, Act.put, List.setIfInBounds_toArray, List.set_cons_zero, List.set_cons_succ]
      refine wpAnyH_take (i := 7) (oi := _) (v := ?vvq37) rfl (by kernel_rfl) (by kernel_rfl) (by kernel_rfl) (fun _ _ _ h => h) (Or.inl ⟨by kernel_rfl, ?hyq37⟩) hHeld ?restq37
      case hyq37 => intro w hSw; (try dsimp only at hSw); (try go_split_ands); go_simp; try with_reducible rfl
      try simp only [List.getElem_toArray, List.getElem_cons_succ, List.getElem_cons_zero, Act.put, List.setIfInBounds_toArray, List.set_cons_zero, List.set_cons_succ]
      refine wpAnyH_ready (rs := [9]) (by kernel_rfl) (by simp) ?_
      refine AllReadyH.cons (o := _) rfl (fun K hK => ?_) AllReadyH.nil
      have z0 := hA36.cell (j := 0) (v := .slice none 0 0) rfl
      have z1 := hA36.cell (j := 1) (v := .int .i64 0) rfl
      have y0 := hA36.fz 0
      have y1 := hA36.fz 1
      go_simp
      clear z0 z1 y0 y1
      have hA38 : Box 24 b34 [(.slice p36 n c36), .int .i64 (32768 - d)] ((W36.setCell ⟨b34, 0, none⟩ ((.slice p36 n c36))).setCell ⟨b34, 1, none⟩ (.int .i64 (32768 - d))) := (hA36.set 0 _).set 1 _
      have hO38 := (hO36.far hA36 (by decide) 0 ((.slice p36 n c36))).far (hA36.set 0 ((.slice p36 n c36))) (by decide) 1 (.int .i64 (32768 - d))
      have hB38' := (hB36'.setCell (p := ⟨b34, 0, none⟩) hge ((.slice p36 n c36))).setCell (p := ⟨b34, 1, none⟩) hge (.int .i64 (32768 - d))
      generalize ((W36.setCell ⟨b34, 0, none⟩ ((.slice p36 n c36))).setCell ⟨b34, 1, none⟩ (.int .i64 (32768 - d))) = W38 at *
      refine hK.out _ _ (hkS _ hB38') (fun hHeld => ?_)
      clear hK K
      try simp only [List.getElem_toArray, List.getElem_cons_succ, List.getElem_cons_zero, Act.put, List.setIfInBounds_toArray, List.set_cons_zero, List.set_cons_succ]
      refine wpAnyH_done (by kernel_rfl) ?_ _
      go_wp2_with fail
      go_meet
      exact ⟨b34, _, _, rfl, hge, hA38, hO38, hB38'⟩
  obtain ⟨bc, pv, cv, rfl, hgc, hC, hO, hD⟩ := hcut
  replace hI := hI.on hD
  replace hK := hK.on hD
  replace hX := hX.on hD
  replace hY := hY.on hD
  replace hB := hB.trans (hD.mono hB.size)
  clear hD
  have hgB := Nat.le_trans hszB hgc
  clear hszB hgc
  have chC0 := hC.cell (j := 0) (v := .slice pv n cv) rfl
  have chC1 := hC.cell (j := 1) (v := .int .i64 (32768 - d)) rfl
  go_wp2_with fail
  clear chC0 chC1
  have hR4 := hO.reads
  clear hX
  refine (cput8_val pv n cv (32768 - d) xs t2 wc HN.out HBD.out hR4 H3.out HT2.out).mono ?_
  rintro e w9 ⟨rfl, hD⟩
  replace hI := hI.on hD
  replace hK := hK.on hD
  replace hC := hC.on hD
  replace hY := hY.on hD
  replace hO := hO.on hD
  replace hB := hB.trans (hD.mono hB.size)
  clear hD
  have chI0 := hI.cell (j := 0) (v := .slice p n c) rfl
  have chI1 := hI.cell (j := 1) (v := .int .i64 d) rfl
  go_wp2_with fail
  clear chI0 chI1
  go_ret
  exact ⟨rfl, hB⟩
set_option maxHeartbeats 8000000 in
set_option maxRecDepth 100000 in
theorem iap_in (p p' : Option Addr) (n n' c c' : Nat) (d d' a : Int) (w : World) (xs ys : List Int) (hn : n = xs.length) (hn' : n' = ys.length) (hb : Bd xs) (hb' : Bd ys) (hX : RdW w (.slice p n c) xs) (hY : RdW w (.slice p' n' c') ys) (hc : n ≤ c) (hcm : c ≤ maxLen) (hc' : n' ≤ c') (hcm' : c' ≤ maxLen) (h : ¬ 500 < n) (h2 : ¬ 500 < n') (r : rightM n d = true) (r2 : rightM n' d' = true) (k : Nat) (hk : k < n) (hak : a = (k : Int)) : Calls Try.prog 7 #[.agg #[.slice p n c, .int .i64 d], .agg #[.slice p' n' c', .int .i64 d'], .int .i64 a] w fun e w' => e = .returned (.bool true) ∧ Below w.heap.size w w' := by
  have g1 : decide ((500 : Int) < (n : Int)) = false := decide_eq_false (by omega)
  have g2 : decide ((500 : Int) < (n' : Int)) = false := decide_eq_false (by omega)
  obtain ⟨t, ht⟩ : ∃ t : ByteArray, t = ⟨(putL d xs).toArray⟩ := ⟨_, rfl⟩
  obtain ⟨u, hu⟩ : ∃ t : ByteArray, t = ⟨(putL d' ys).toArray⟩ := ⟨_, rfl⟩
  have hI : ImgAt t n d xs := by rw [ht, hn]; exact img_put hb (by rw [← hn]; exact r)
  have hI' : ImgAt u n' d' ys := by rw [hu, hn']; exact img_put hb' (by rw [← hn']; exact r2)
  obtain ⟨gs, hgs⟩ : ∃ g, sameM xs ys d d' = g := ⟨_, rfl⟩
  have heq := apart_same hI hI'
  rw [hgs] at heq
  have hne : ((t.toList == u.toList) != gs) = false := by rw [heq]; exact bne_self_eq_false _
  subst hak
  have g3 : decide ((k : Int) < 0) = false := decide_eq_false (by omega)
  have g4 : decide ((n : Int) ≤ (k : Int)) = false := decide_eq_false (by omega)
  have b1 : (0 : Int) ≤ (k : Int) := by omega
  have b2 : (k : Int) < (n : Int) := by omega
  obtain ⟨x0, hx0⟩ : ∃ x, xs.getD k 0 = x := ⟨_, rfl⟩
  obtain ⟨y, hy⟩ : ∃ y, IntKind.u32.wrap (x0 + 1) = y := ⟨_, rfl⟩
  have hx0b : 0 ≤ x0 ∧ x0 < 4294967296 := by rw [← hx0, List.getD_eq_getElem?_getD, List.getElem?_eq_getElem (by omega)]; exact hb.at k (by omega)
  have hyb : 0 ≤ y ∧ y < 4294967296 ∧ y ≠ x0 := by rw [← hy, IntKind.wrap_u32]; omega
  obtain ⟨zs, hzs⟩ : ∃ l, xs.set k y = l := ⟨_, rfl⟩
  have hbz : Bd zs := by rw [← hzs]; exact bd_set hb k y hyb.1 hyb.2.1
  have hzl : n = zs.length := by rw [← hzs, List.length_set]; exact hn
  obtain ⟨t3, ht3⟩ : ∃ t : ByteArray, t = ⟨(putL d zs).toArray⟩ := ⟨_, rfl⟩
  have hI4 : ImgAt t3 n d zs := by rw [ht3, hzl]; exact img_put hbz (by rw [← hzl]; exact r)
  have heq3 : (t3.toList == t.toList) = false := by rw [apart_same hI4 hI]; exact Bool.eq_false_iff.2 (fun h => set_other k y (by omega) (by rw [hx0]; exact hyb.2.2) (hzs.trans ((same_iff _ _ _ _).1 h).2))
  have hne3 : (t3.toList != t.toList) = true := by simp only [bne, heq3]; rfl
  have hz3 : ((t3.size : Int) == (t.size : Int)) = true := by rw [beq_iff_eq, hI4.sz, hI.sz]
  have HKL : Hid (k < xs.length) := by show _ < _; omega
  have HX0 := Lib.hid hx0
  have HY := Lib.hid hy
  have HZS := Lib.hid hzs
  have HBZ := Lib.hid hbz
  have HZL := Lib.hid hzl
  have HT3 := Lib.hid ht3
  clear hk hx0 hy hx0b hyb hzs hbz hzl ht3 hI4
  obtain ⟨t2, ht2⟩ : ∃ t : ByteArray, t = ⟨(putL (32768 - d) xs).toArray⟩ := ⟨_, rfl⟩
  have r3 : rightM n (32768 - d) = true := by unfold rightM at r ⊢; simp at r ⊢; omega
  have hI3 : ImgAt t2 n (32768 - d) xs := by rw [ht2, hn]; exact img_put hb (by rw [← hn]; exact r3)
  have heq2 : (t2.toList == t.toList) = (d == 16384) := by rw [apart_same hI3 hI, Bool.eq_iff_iff, same_iff, beq_iff_eq]; exact ⟨fun h => by omega, fun h => ⟨by omega, rfl⟩⟩
  have hne2 : ((t2.toList == t.toList) != (d == 16384)) = false := by rw [heq2]; exact bne_self_eq_false _
  have H3 := Lib.hid r3
  have HT2 := Lib.hid ht2
  clear r3 ht2 hI3
  have HXL : Hid (xs.length ≤ 100000) := by show _ ≤ _; omega
  have hdw : IntKind.i64.wrap (32768 - d) = 32768 - d := by unfold rightM at r; simp at r; exact IntWalk.i64_in _ (by omega)
  have HM1 : Hid (xs.length ≤ 1000000) := by show _ ≤ _; omega
  have HM2 : Hid (ys.length ≤ 1000000) := by show _ ≤ _; omega
  have H := Lib.hid r
  have H2 := Lib.hid r2
  have HN := Lib.hid hn
  have HN2 := Lib.hid hn'
  have HT := Lib.hid ht
  have HU := Lib.hid hu
  have HBD := Lib.hid hb
  have HBD2 := Lib.hid hb'
  have HGS := Lib.hid hgs
  have HC1 := Lib.hid hc
  have HC2 := Lib.hid hcm
  have HC3 := Lib.hid hc'
  have HC4 := Lib.hid hcm'
  clear h h2 r r2 hn hn' ht hu hb hb' hI hI' hgs hc hcm hc' hcm'
  obtain ⟨w1, hw1⟩ : ∃ w', w.alloc (.cells #[.slice p n c, .int .i64 d] 24) = w' := ⟨_, rfl⟩
  have hI : Box 24 w.heap.size [.slice p n c, .int .i64 d] w1 := by rw [← hw1]; exact Box.new 24 [.slice p n c, .int .i64 d] w
  have hD : Below w.heap.size w w1 := by rw [← hw1]; exact (Below.refl _ _).alloc (Nat.le_refl _) _
  replace hX := hX.on hD
  replace hY := hY.on hD
  have hB := hD
  clear hD
  obtain ⟨w2, hw2⟩ : ∃ w', w1.alloc (.cells #[.slice p' n' c', .int .i64 d'] 24) = w' := ⟨_, rfl⟩
  have hK : Box 24 w1.heap.size [.slice p' n' c', .int .i64 d'] w2 := by rw [← hw2]; exact Box.new 24 [.slice p' n' c', .int .i64 d'] w1
  have hD : Below w1.heap.size w1 w2 := by rw [← hw2]; exact (Below.refl _ _).alloc (Nat.le_refl _) _
  replace hI := hI.on hD
  replace hX := hX.on hD
  replace hY := hY.on hD
  replace hB := hB.trans (hD.mono hB.size)
  clear hD
  go_enter Try.func7, Try.ntmps7
  go_wp2_with fail
  clear hw1 hw2
  refine (awake8_any w2).mono ?_
  rintro e w3 ⟨rfl, hD⟩
  replace hI := hI.on hD
  replace hK := hK.on hD
  replace hX := hX.on hD
  replace hY := hY.on hD
  replace hB := hB.trans (hD.mono hB.size)
  clear hD
  have chI0 := hI.cell (j := 0) (v := .slice p n c) rfl
  have chI1 := hI.cell (j := 1) (v := .int .i64 d) rfl
  have chK0 := hK.cell (j := 0) (v := .slice p' n' c') rfl
  have chK1 := hK.cell (j := 1) (v := .int .i64 d') rfl
  go_wp2_with fail
  clear chI0 chI1 chK0 chK1
  refine (rright8_val p n c d true w3 H.out).mono ?_
  rintro e w4 ⟨rfl, hD⟩
  replace hI := hI.on hD
  replace hK := hK.on hD
  replace hX := hX.on hD
  replace hY := hY.on hD
  replace hB := hB.trans (hD.mono hB.size)
  clear hD
  have chK0 := hK.cell (j := 0) (v := .slice p' n' c') rfl
  have chK1 := hK.cell (j := 1) (v := .int .i64 d') rfl
  go_wp2_with fail
  clear chK0 chK1
  refine (rright8_val p' n' c' d' true w4 H2.out).mono ?_
  rintro e w5 ⟨rfl, hD⟩
  replace hI := hI.on hD
  replace hK := hK.on hD
  replace hX := hX.on hD
  replace hY := hY.on hD
  replace hB := hB.trans (hD.mono hB.size)
  clear hD
  have chI0 := hI.cell (j := 0) (v := .slice p n c) rfl
  have chI1 := hI.cell (j := 1) (v := .int .i64 d) rfl
  go_wp2_with fail
  clear chI0 chI1
  refine (cput8_val p n c d xs t w5 HN.out HBD.out hX H.out HT.out).mono ?_
  rintro e w6 ⟨rfl, hD⟩
  replace hI := hI.on hD
  replace hK := hK.on hD
  replace hX := hX.on hD
  replace hY := hY.on hD
  replace hB := hB.trans (hD.mono hB.size)
  clear hD
  have chK0 := hK.cell (j := 0) (v := .slice p' n' c') rfl
  have chK1 := hK.cell (j := 1) (v := .int .i64 d') rfl
  go_wp2_with fail
  clear chK0 chK1
  refine (cput8_val p' n' c' d' ys u w6 HN2.out HBD2.out hY H2.out HU.out).mono ?_
  rintro e w7 ⟨rfl, hD⟩
  replace hI := hI.on hD
  replace hK := hK.on hD
  replace hX := hX.on hD
  replace hY := hY.on hD
  replace hB := hB.trans (hD.mono hB.size)
  clear hD
  have chI0 := hI.cell (j := 0) (v := .slice p n c) rfl
  have chI1 := hI.cell (j := 1) (v := .int .i64 d) rfl
  have chK0 := hK.cell (j := 0) (v := .slice p' n' c') rfl
  have chK1 := hK.cell (j := 1) (v := .int .i64 d') rfl
  go_wp2_with fail
  clear chI0 chI1 chK0 chK1
  refine (csame8_val p p' n n' c c' xs ys d d' gs w7 HN.out HN2.out HM1.out HM2.out hX hY HC1.out HC2.out HC3.out HC4.out HGS.out).mono ?_
  rintro e w8 ⟨rfl, hD⟩
  replace hI := hI.on hD
  replace hK := hK.on hD
  replace hX := hX.on hD
  replace hY := hY.on hD
  replace hB := hB.trans (hD.mono hB.size)
  clear hD
  have hszB := hB.size
  go_upto_region 9 with fail
  go_cut [11] from 55 to 62 (fun sa wx => ∃ bc pv cv, sa = .pointer (some ⟨bc, 0, none⟩) ∧ w8.heap.size ≤ bc ∧ Box 24 bc [.slice pv n cv, .int .i64 (32768 - d)] wx ∧ OwnsW w8.heap.size (.slice pv n cv) xs wx ∧ Below w8.heap.size w8 wx)
  case first =>
    have hkS : ∀ W : World, Below w8.heap.size w8 W → (W.cell? ⟨w.heap.size, 0, none⟩ = some (.slice p n c) ∧ W.cell? ⟨w.heap.size, 1, none⟩ = some (.int .i64 d)) := fun W h => ⟨(hI.on h).cell (j := 0) rfl, (hI.on h).cell (j := 1) rfl⟩
    have hB0 : Below w8.heap.size w8 w8.drew := (Below.refl _ _).drew
    refine wp_region_held_drew (S := fun w' => w'.cell? ⟨w.heap.size, 0, none⟩ = some (.slice p n c) ∧ w'.cell? ⟨w.heap.size, 1, none⟩ = some (.int .i64 d)) (by kernel_rfl) (hkS _ hB0) (fun hHeld => ?_)
    clear hB
    generalize w8.drew = W0 at *
    refine wpAnyH_take (i := 0) (oi := _) (v := ?vvq39) rfl (by kernel_rfl) (by kernel_rfl) (by kernel_rfl) (fun _ _ _ h => h) (Or.inl ⟨by kernel_rfl, ?hyq39⟩) hHeld ?restq39
    case hyq39 => intro w hSw; (try dsimp only at hSw); (try go_split_ands); go_simp; try with_reducible rfl
    try simp only [List.getElem_toArray, List.getElem_cons_zero, Act.put, List.setIfInBounds_toArray, List.set_cons_zero, List.set_cons_succ]
    refine wpAnyH_take (i := 1) (oi := _) (v := ?vvq40) rfl (by kernel_rfl) (by kernel_rfl) (by kernel_rfl) (fun _ _ _ h => h) (Or.inl ⟨by kernel_rfl, ?hyq40⟩) hHeld ?restq40
    case hyq40 => intro w hSw; (try dsimp only at hSw); (try go_split_ands); go_simp; try with_reducible rfl
    try simp only [List.getElem_toArray, List.getElem_cons_succ, List.getElem_cons_zero, Act.put, List.setIfInBounds_toArray, List.set_cons_zero, List.set_cons_succ]
    refine wpAnyH_take (i := 2) (oi := _) (v := ?vvq41) rfl (by kernel_rfl) (by kernel_rfl) (by kernel_rfl) (fun _ _ _ h => h) (Or.inl ⟨by kernel_rfl, ?hyq41⟩) hHeld ?restq41
    case hyq41 => intro w hSw; (try dsimp only at hSw); (try go_split_ands); go_simp; try with_reducible rfl
    try simp only [List.getElem_toArray, List.getElem_cons_succ, List.getElem_cons_zero, Act.put, List.setIfInBounds_toArray, List.set_cons_zero, List.set_cons_succ]
    refine wpAnyH_take (i := 4) (oi := _) (v := ?vvq42) rfl (by kernel_rfl) (by kernel_rfl) (by kernel_rfl) (fun _ _ _ h => h) (Or.inl ⟨by kernel_rfl, ?hyq42⟩) hHeld ?restq42
    case hyq42 => intro w hSw; (try dsimp only at hSw); (try go_split_ands); go_simp; try with_reducible rfl
    try simp only [List.getElem_toArray, List.getElem_cons_succ, List.getElem_cons_zero, Act.put, List.setIfInBounds_toArray, List.set_cons_zero, List.set_cons_succ]
    refine wpAnyH_take (i := 5) (oi := _) (v := ?vvq43) rfl (by kernel_rfl) (by kernel_rfl) (by kernel_rfl) (fun _ _ _ h => h) (Or.inl ⟨by kernel_rfl, ?hyq43⟩) hHeld ?restq43
    case hyq43 => intro w hSw; (try dsimp only at hSw); (try go_split_ands); go_simp; try with_reducible rfl
    try simp only [List.getElem_toArray, List.getElem_cons_succ, List.getElem_cons_zero, Act.put, List.setIfInBounds_toArray, List.set_cons_zero, List.set_cons_succ]
    refine wpAnyH_ready (rs := [3, 8]) (by kernel_rfl) (by simp) ?_
    refine AllReadyH.cons (o := _) rfl (fun K hK => ?_) ?_
    · go_simp
      have hO44 := ownsW_lit0 W0 w8.heap.size hB0.size
      have hB44' := hB0.alloc hB0.size (.cells #[] 35)
      generalize W0.alloc (.cells #[] 35) = W44 at *
      generalize hv44 : Value.slice (some ⟨W0.heap.size, 0, none⟩) 0 0 = v44 at *
      refine hK.out _ _ (hkS _ hB44') (fun hHeld => ?_)
      clear hK K
      try simp only [List.getElem_toArray, List.getElem_cons_succ, List.getElem_cons_zero, Act.put, List.setIfInBounds_toArray, List.set_cons_zero, List.set_cons_succ]
      refine wpAnyH_ready (rs := [6, 8]) (by kernel_rfl) (by simp) ?_
      refine AllReadyH.cons (o := _) rfl (fun K hK => ?_) ?_
      · refine step_appW rfl _ _ rfl w8.heap.size v44 [] xs rfl hO44 p n c rfl HN.out (hX.on hB44') (Nat.zero_le _) HXL.out hB44'.size ?_
        intro v45 W45 hO45 hg45
        have hB45' := hB44'.grown hg45 hB44'.size (fun k e => (World.ownsRow.lt hO44 k e).1)
        rw [List.nil_append] at hO45
        obtain ⟨p45, c45, hv45, _⟩ := hO45.reads
        rw [← HN.out] at hv45
        subst hv45
        refine hK.out _ _ (hkS _ hB45') (fun hHeld => ?_)
        clear hK K
        try simp only [List.getElem_toArray, List.getElem_cons_succ, List.getElem_cons_zero, Act.put, List.setIfInBounds_toArray, List.set_cons_zero, List.set_cons_succ]
        refine wpAnyH_take (i := 7) (oi := _) (v := ?vvq46) rfl (by kernel_rfl) (by kernel_rfl) (by kernel_rfl) (fun _ _ _ h => h) (Or.inl ⟨by kernel_rfl, ?hyq46⟩) hHeld ?restq46
        case hyq46 => intro w hSw; (try dsimp only at hSw); (try go_split_ands); go_simp; try with_reducible rfl
        try simp only [List.getElem_toArray, List.getElem_cons_succ, List.getElem_cons_zero, Act.put, List.setIfInBounds_toArray, List.set_cons_zero, List.set_cons_succ]
        refine wpAnyH_ready (rs := [8]) (by kernel_rfl) (by simp) ?_
        refine AllReadyH.cons (o := _) rfl (fun K hK => ?_) AllReadyH.nil
        go_simp
        have hA47 := Box.new 24 [.slice none 0 0, .int .i64 0] W45
        have hB47' := hB45'.alloc hB45'.size (.cells #[.slice none 0 0, .int .i64 0] 24)
        have hge := hB45'.size
        have hO47 := hO45.al (.cells #[.slice none 0 0, .int .i64 0] 24)
        generalize W45.alloc (.cells #[.slice none 0 0, .int .i64 0] 24) = W47 at *
        generalize W45.heap.size = b47 at *
        refine hK.out _ _ (hkS _ hB47') (fun hHeld => ?_)
        clear hK K
        try simp only [List.getElem_toArray, List.getElem_cons_succ, List.getElem_cons_zero, Act.put, List.setIfInBounds_toArray, List.set_cons_zero, List.set_cons_succ]
        refine wpAnyH_ready (rs := [9]) (by kernel_rfl) (by simp) ?_
        refine AllReadyH.cons (o := _) rfl (fun K hK => ?_) AllReadyH.nil
        have z0 := hA47.cell (j := 0) (v := .slice none 0 0) rfl
        have z1 := hA47.cell (j := 1) (v := .int .i64 0) rfl
        have y0 := hA47.fz 0
        have y1 := hA47.fz 1
        go_simp
        clear z0 z1 y0 y1
        have hA48 : Box 24 b47 [(.slice p45 n c45), .int .i64 (32768 - d)] ((W47.setCell ⟨b47, 0, none⟩ ((.slice p45 n c45))).setCell ⟨b47, 1, none⟩ (.int .i64 (32768 - d))) := (hA47.set 0 _).set 1 _
        have hO48 := (hO47.far hA47 (by decide) 0 ((.slice p45 n c45))).far (hA47.set 0 ((.slice p45 n c45))) (by decide) 1 (.int .i64 (32768 - d))
        have hB48' := (hB47'.setCell (p := ⟨b47, 0, none⟩) hge ((.slice p45 n c45))).setCell (p := ⟨b47, 1, none⟩) hge (.int .i64 (32768 - d))
        generalize ((W47.setCell ⟨b47, 0, none⟩ ((.slice p45 n c45))).setCell ⟨b47, 1, none⟩ (.int .i64 (32768 - d))) = W48 at *
        refine hK.out _ _ (hkS _ hB48') (fun hHeld => ?_)
        clear hK K
        try simp only [List.getElem_toArray, List.getElem_cons_succ, List.getElem_cons_zero, Act.put, List.setIfInBounds_toArray, List.set_cons_zero, List.set_cons_succ]
        refine wpAnyH_done (by kernel_rfl) ?_ _
        go_wp2_with fail
        go_meet
        exact ⟨b47, _, _, rfl, hge, hA48, hO48, hB48'⟩
      refine AllReadyH.cons (o := _) rfl (fun K hK => ?_) AllReadyH.nil
      · go_simp
        have hA49 := Box.new 24 [.slice none 0 0, .int .i64 0] W44
        have hB49' := hB44'.alloc hB44'.size (.cells #[.slice none 0 0, .int .i64 0] 24)
        have hge := hB44'.size
        have hO49 := hO44.al (.cells #[.slice none 0 0, .int .i64 0] 24)
        generalize W44.alloc (.cells #[.slice none 0 0, .int .i64 0] 24) = W49 at *
        generalize W44.heap.size = b49 at *
        refine hK.out _ _ (hkS _ hB49') (fun hHeld => ?_)
        clear hK K
        try simp only [List.getElem_toArray, List.getElem_cons_succ, List.getElem_cons_zero, Act.put, List.setIfInBounds_toArray, List.set_cons_zero, List.set_cons_succ]
        refine wpAnyH_ready (rs := [6]) (by kernel_rfl) (by simp) ?_
        refine AllReadyH.cons (o := _) rfl (fun K hK => ?_) AllReadyH.nil
        refine step_appW rfl _ _ rfl w8.heap.size v44 [] xs rfl hO49 p n c rfl HN.out (hX.on hB49') (Nat.zero_le _) HXL.out hB49'.size ?_
        intro v50 W50 hO50 hg50
        have hB50' := hB49'.grown hg50 hB49'.size (fun k e => (World.ownsRow.lt hO49 k e).1)
        rw [List.nil_append] at hO50
        obtain ⟨p50, c50, hv50, _⟩ := hO50.reads
        rw [← HN.out] at hv50
        subst hv50
        have hA50 := box_grown hA49 hg50 (hO49.apart hA49 (by decide))
        refine hK.out _ _ (hkS _ hB50') (fun hHeld => ?_)
        clear hK K
        try simp only [List.getElem_toArray, List.getElem_cons_succ, List.getElem_cons_zero, Act.put, List.setIfInBounds_toArray, List.set_cons_zero, List.set_cons_succ]
        refine wpAnyH_take (i := 7) (oi := _) (v := ?vvq51) rfl (by kernel_rfl) (by kernel_rfl) (by kernel_rfl) (fun _ _ _ h => h) (Or.inl ⟨by kernel_rfl, ?hyq51⟩) hHeld ?restq51
        case hyq51 => intro w hSw; (try dsimp only at hSw); (try go_split_ands); go_simp; try with_reducible rfl
        try simp only [List.getElem_toArray, List.getElem_cons_succ, List.getElem_cons_zero, Act.put, List.setIfInBounds_toArray, List.set_cons_zero, List.set_cons_succ]
        refine wpAnyH_ready (rs := [9]) (by kernel_rfl) (by simp) ?_
        refine AllReadyH.cons (o := _) rfl (fun K hK => ?_) AllReadyH.nil
        have z0 := hA50.cell (j := 0) (v := .slice none 0 0) rfl
        have z1 := hA50.cell (j := 1) (v := .int .i64 0) rfl
        have y0 := hA50.fz 0
        have y1 := hA50.fz 1
        go_simp
        clear z0 z1 y0 y1
        have hA52 : Box 24 b49 [(.slice p50 n c50), .int .i64 (32768 - d)] ((W50.setCell ⟨b49, 0, none⟩ ((.slice p50 n c50))).setCell ⟨b49, 1, none⟩ (.int .i64 (32768 - d))) := (hA50.set 0 _).set 1 _
        have hO52 := (hO50.far hA50 (by decide) 0 ((.slice p50 n c50))).far (hA50.set 0 ((.slice p50 n c50))) (by decide) 1 (.int .i64 (32768 - d))
        have hB52' := (hB50'.setCell (p := ⟨b49, 0, none⟩) hge ((.slice p50 n c50))).setCell (p := ⟨b49, 1, none⟩) hge (.int .i64 (32768 - d))
        generalize ((W50.setCell ⟨b49, 0, none⟩ ((.slice p50 n c50))).setCell ⟨b49, 1, none⟩ (.int .i64 (32768 - d))) = W52 at *
        refine hK.out _ _ (hkS _ hB52') (fun hHeld => ?_)
        clear hK K
        try simp only [List.getElem_toArray, List.getElem_cons_succ, List.getElem_cons_zero, Act.put, List.setIfInBounds_toArray, List.set_cons_zero, List.set_cons_succ]
        refine wpAnyH_done (by kernel_rfl) ?_ _
        go_wp2_with fail
        go_meet
        exact ⟨b49, _, _, rfl, hge, hA52, hO52, hB52'⟩
    refine AllReadyH.cons (o := _) rfl (fun K hK => ?_) AllReadyH.nil
    · go_simp
      have hA53 := Box.new 24 [.slice none 0 0, .int .i64 0] W0
      have hB53' := hB0.alloc hB0.size (.cells #[.slice none 0 0, .int .i64 0] 24)
      have hge := hB0.size
      generalize W0.alloc (.cells #[.slice none 0 0, .int .i64 0] 24) = W53 at *
      generalize W0.heap.size = b53 at *
      refine hK.out _ _ (hkS _ hB53') (fun hHeld => ?_)
      clear hK K
      try simp only [List.getElem_toArray, List.getElem_cons_succ, List.getElem_cons_zero, Act.put, List.setIfInBounds_toArray, List.set_cons_zero, List.set_cons_succ]
      refine wpAnyH_ready (rs := [3]) (by kernel_rfl) (by simp) ?_
      refine AllReadyH.cons (o := _) rfl (fun K hK => ?_) AllReadyH.nil
      go_simp
      have hO54 := ownsW_lit0 W53 w8.heap.size hB53'.size
      have hB54' := hB53'.alloc hB53'.size (.cells #[] 35)
      have hA54 := hA53.al (.cells #[] 35)
      generalize W53.alloc (.cells #[] 35) = W54 at *
      generalize hv54 : Value.slice (some ⟨W53.heap.size, 0, none⟩) 0 0 = v54 at *
      refine hK.out _ _ (hkS _ hB54') (fun hHeld => ?_)
      clear hK K
      try simp only [List.getElem_toArray, List.getElem_cons_succ, List.getElem_cons_zero, Act.put, List.setIfInBounds_toArray, List.set_cons_zero, List.set_cons_succ]
      refine wpAnyH_ready (rs := [6]) (by kernel_rfl) (by simp) ?_
      refine AllReadyH.cons (o := _) rfl (fun K hK => ?_) AllReadyH.nil
      refine step_appW rfl _ _ rfl w8.heap.size v54 [] xs rfl hO54 p n c rfl HN.out (hX.on hB54') (Nat.zero_le _) HXL.out hB54'.size ?_
      intro v55 W55 hO55 hg55
      have hB55' := hB54'.grown hg55 hB54'.size (fun k e => (World.ownsRow.lt hO54 k e).1)
      rw [List.nil_append] at hO55
      obtain ⟨p55, c55, hv55, _⟩ := hO55.reads
      rw [← HN.out] at hv55
      subst hv55
      have hA55 := box_grown hA54 hg55 (hO54.apart hA54 (by decide))
      refine hK.out _ _ (hkS _ hB55') (fun hHeld => ?_)
      clear hK K
      try simp only [List.getElem_toArray, List.getElem_cons_succ, List.getElem_cons_zero, Act.put, List.setIfInBounds_toArray, List.set_cons_zero, List.set_cons_succ]
      refine wpAnyH_take (i := 7) (oi := _) (v := ?vvq56) rfl (by kernel_rfl) (by kernel_rfl) (by kernel_rfl) (fun _ _ _ h => h) (Or.inl ⟨by kernel_rfl, ?hyq56⟩) hHeld ?restq56
      case hyq56 => intro w hSw; (try dsimp only at hSw); (try go_split_ands); go_simp; try with_reducible rfl
      try simp only [List.getElem_toArray, List.getElem_cons_succ, List.getElem_cons_zero, Act.put, List.setIfInBounds_toArray, List.set_cons_zero, List.set_cons_succ]
      refine wpAnyH_ready (rs := [9]) (by kernel_rfl) (by simp) ?_
      refine AllReadyH.cons (o := _) rfl (fun K hK => ?_) AllReadyH.nil
      have z0 := hA55.cell (j := 0) (v := .slice none 0 0) rfl
      have z1 := hA55.cell (j := 1) (v := .int .i64 0) rfl
      have y0 := hA55.fz 0
      have y1 := hA55.fz 1
      go_simp
      clear z0 z1 y0 y1
      have hA57 : Box 24 b53 [(.slice p55 n c55), .int .i64 (32768 - d)] ((W55.setCell ⟨b53, 0, none⟩ ((.slice p55 n c55))).setCell ⟨b53, 1, none⟩ (.int .i64 (32768 - d))) := (hA55.set 0 _).set 1 _
      have hO57 := (hO55.far hA55 (by decide) 0 ((.slice p55 n c55))).far (hA55.set 0 ((.slice p55 n c55))) (by decide) 1 (.int .i64 (32768 - d))
      have hB57' := (hB55'.setCell (p := ⟨b53, 0, none⟩) hge ((.slice p55 n c55))).setCell (p := ⟨b53, 1, none⟩) hge (.int .i64 (32768 - d))
      generalize ((W55.setCell ⟨b53, 0, none⟩ ((.slice p55 n c55))).setCell ⟨b53, 1, none⟩ (.int .i64 (32768 - d))) = W57 at *
      refine hK.out _ _ (hkS _ hB57') (fun hHeld => ?_)
      clear hK K
      try simp only [List.getElem_toArray, List.getElem_cons_succ, List.getElem_cons_zero, Act.put, List.setIfInBounds_toArray, List.set_cons_zero, List.set_cons_succ]
      refine wpAnyH_done (by kernel_rfl) ?_ _
      go_wp2_with fail
      go_meet
      exact ⟨b53, _, _, rfl, hge, hA57, hO57, hB57'⟩
  obtain ⟨bc, pv, cv, rfl, hgc, hC, hO, hD⟩ := hcut
  obtain ⟨g, rfl, hgB2⟩ := hO.form (Nat.lt_of_le_of_lt (Nat.zero_le k) HKL.out)
  have hgI : w.heap.size ≠ g := Nat.ne_of_lt (Nat.lt_of_lt_of_le hI.lt hgB2)
  have hgC : bc ≠ g := fun e => hO.apart hC (by decide) (by rw [e]; rfl)
  have hgG := Nat.le_trans hszB hgB2
  clear hgB2
  replace hI := hI.on hD
  replace hK := hK.on hD
  replace hX := hX.on hD
  replace hY := hY.on hD
  replace hB := hB.trans (hD.mono hB.size)
  clear hD
  have hgB := Nat.le_trans hszB hgc
  clear hszB hgc
  have chC0 := hC.cell (j := 0) (v := .slice (some ⟨g, 0, none⟩) n cv) rfl
  have chC1 := hC.cell (j := 1) (v := .int .i64 (32768 - d)) rfl
  go_wp2_with fail
  clear chC0 chC1
  have hR4 := hO.reads
  clear hX
  refine (cput8_val (some ⟨g, 0, none⟩) n cv (32768 - d) xs t2 wc HN.out HBD.out hR4 H3.out HT2.out).mono ?_
  rintro e w9 ⟨rfl, hD⟩
  replace hI := hI.on hD
  replace hK := hK.on hD
  replace hC := hC.on hD
  replace hY := hY.on hD
  replace hO := hO.on hD
  replace hB := hB.trans (hD.mono hB.size)
  clear hD
  have chI0 := hI.cell (j := 0) (v := .slice p n c) rfl
  have chI1 := hI.cell (j := 1) (v := .int .i64 d) rfl
  go_wp2_with fail
  clear chI0 chI1
  obtain ⟨hec, hef, hset⟩ := hO.atg k HKL.out
  rw [HX0.out] at hec
  have hset := hset y
  rw [HZS.out] at hset
  have hy := HY.out
  have chC0 := hC.cell (j := 0) (v := .slice (some ⟨g, 0, none⟩) n cv) rfl
  have chC1 := hC.cell (j := 1) (v := .int .i64 (32768 - d)) rfl
  go_still_tail 10, (by kernel_rfl)
  change wpList _ _ _ _ _ w9.drew
  have hI9 : Box 24 w.heap.size [.slice p n c, .int .i64 d] w9.drew := hI
  have hC9 : Box 24 bc [.slice (some ⟨g, 0, none⟩) n cv, .int .i64 (32768 - d)] w9.drew := hC
  have hs9 : OwnsW w8.heap.size (.slice (some ⟨g, 0, none⟩) n cv) zs (w9.drew.setCell ⟨g, k, none⟩ (.int .u32 y)) := hset
  have he9 : w9.drew.cell? ⟨g, k, none⟩ = some (.int .u32 x0) := hec
  have hf9 : w9.drew.frozen? ⟨g, k, none⟩ = false := hef
  have hB9 : Below w.heap.size w w9.drew := hB.drew
  clear hI hC hset hec hef hB hO hK hY chC0 chC1
  generalize w9.drew = W0 at *
  obtain ⟨W1, hW1⟩ : ∃ w', W0.setCell ⟨g, k, none⟩ (.int .u32 y) = w' := ⟨_, rfl⟩
  have hI : Box 24 w.heap.size [.slice p n c, .int .i64 d] W1 := by rw [← hW1]; exact hI9.far (a := ⟨g, k, none⟩) hgI _
  have hC : Box 24 bc [.slice (some ⟨g, 0, none⟩) n cv, .int .i64 (32768 - d)] W1 := by rw [← hW1]; exact hC9.far (a := ⟨g, k, none⟩) hgC _
  have hB : Below w.heap.size w W1 := by rw [← hW1]; exact hB9.setCell (p := ⟨g, k, none⟩) hgG _
  rw [hW1] at hs9
  clear hI9 hC9 hB9
  have cI1 := hI.cell (j := 1) (v := .int .i64 d) rfl
  have cC1 := hC.cell (j := 1) (v := .int .i64 (32768 - d)) rfl
  have fC1 := hC.fz 1
  obtain ⟨W2, hW2⟩ : ∃ w', W1.setCell ⟨bc, 1, none⟩ (.int .i64 d) = w' := ⟨_, rfl⟩
  have hO : OwnsW w8.heap.size (.slice (some ⟨g, 0, none⟩) n cv) zs W2 := by rw [← hW2]; exact hs9.far hC (by decide) 1 _
  have hC2 : Box 24 bc [.slice (some ⟨g, 0, none⟩) n cv, .int .i64 d] W2 := by rw [← hW2]; exact hC.set 1 _
  have hB2 : Below w.heap.size w W2 := by rw [← hW2]; exact hB.setCell (p := ⟨bc, 1, none⟩) hgB _
  have c20 := hC2.cell (j := 0) (v := .slice (some ⟨g, 0, none⟩) n cv) rfl
  have c21 := hC2.cell (j := 1) (v := .int .i64 d) rfl
  clear hI hC hB hs9
  have hB := hB2
  clear hB2
  go_wp2_with fail
  clear hW1 he9 hf9 hy cI1 cC1 fC1 hW2 c20 c21
  have hR5 := hO.reads
  refine (cput8_val (some ⟨g, 0, none⟩) n cv d zs t3 W2 HZL.out HBZ.out hR5 H.out HT3.out).mono ?_
  rintro e w10 ⟨rfl, hD⟩
  replace hB := hB.trans (hD.mono hB.size)
  clear hD
  clear hR5 hO hC2
  go_wp2_with fail
  go_ret
  exact ⟨rfl, hB⟩
theorem iap_walk (p p' : Option Addr) (n n' c c' : Nat) (d d' a : Int) (w : World) (xs ys : List Int) (hn : n = xs.length) (hn' : n' = ys.length) (hb : Bd xs) (hb' : Bd ys) (hX : RdW w (.slice p n c) xs) (hY : RdW w (.slice p' n' c') ys) (hc : n ≤ c) (hcm : c ≤ maxLen) (hc' : n' ≤ c') (hcm' : c' ≤ maxLen) : Calls Try.prog 7 #[.agg #[.slice p n c, .int .i64 d], .agg #[.slice p' n' c', .int .i64 d'], .int .i64 a] w fun e w' => e = .returned (.bool true) ∧ Below w.heap.size w w' := by
  by_cases h : 500 < n
  · exact iap_1 p p' n n' c c' d d' a w h
  by_cases h2 : 500 < n'
  · exact iap_2 p p' n n' c c' d d' a w h h2
  cases r : rightM n d
  · exact iap_3 p p' n n' c c' d d' a w h h2 r
  cases r2 : rightM n' d'
  · exact iap_4 p p' n n' c c' d d' a w h h2 r r2
  by_cases ha : a < 0
  · exact iap_lo p p' n n' c c' d d' a w xs ys hn hn' hb hb' hX hY hc hcm hc' hcm' h h2 r r2 ha
  by_cases ha2 : (n : Int) ≤ a
  · exact iap_hi p p' n n' c c' d d' a w xs ys hn hn' hb hb' hX hY hc hcm hc' hcm' h h2 r r2 ha2
  exact iap_in p p' n n' c c' d d' a w xs ys hn hn' hb hb' hX hY hc hcm hc' hcm' h h2 r r2 a.toNat (by omega) (by omega)
end Go.Proofs.Ytfaedjpfbaiojaa
