/-
  ImagePrefix: the walk (written by gen_imS.py).
-/
import Derived.Test.YtfaedjpfbaiojaaImQ
namespace Go.Proofs.Ytfaedjpfbaiojaa
open Go.RowKit

theorem same_iff (xs ys : List Int) (d e : Int) : sameM xs ys d e = true ↔ d = e ∧ xs = ys := by unfold sameM; simp
theorem prefix_same {t u : ByteArray} {n n' : Nat} {d d' : Int} {xs ys : List Int} (h : ImgAt t n d xs) (h' : ImgAt u n' d' ys) (hl : t.size ≤ u.size) : ((u.extract 0 t.size).toList == t.toList) = sameM xs ys d d' := by
  rw [Bool.eq_iff_iff, beq_iff_eq, same_iff, ByteArray.toList_eq, ByteArray.toList_eq]
  have he : (u.extract 0 t.size).data.toList = u.data.toList.take t.size := by simp
  rw [he]
  constructor
  · intro e
    have e2 := img_prefix h' h (by rw [← e]; exact List.take_prefix _ _)
    subst e2
    have := img_inj h h'
    exact ⟨this.2.1, this.2.2⟩
  · rintro ⟨rfl, rfl⟩
    have h1 := (img_is h).1
    have h2 := (img_is h').1
    have e : t = u := h1.trans h2.symm
    subst e
    exact List.take_of_length_le (by rw [len_toList]; exact Nat.le_refl _)
theorem longer_same {t u : ByteArray} {n n' : Nat} {d d' : Int} {xs ys : List Int} (h : ImgAt t n d xs) (h' : ImgAt u n' d' ys) (hl : ¬ t.size ≤ u.size) : sameM xs ys d d' = false := by
  cases hs : sameM xs ys d d'
  · rfl
  · have := (same_iff _ _ _ _).1 hs
    have e := (img_is h).1
    rw [this.1, this.2, ← (img_is h').1] at e
    rw [e] at hl
    omega
set_option maxHeartbeats 8000000 in
set_option maxRecDepth 100000 in
theorem iprf_1 (p p' : Option Addr) (n n' c c' : Nat) (d d' : Int) (w : World) (h : 500 < n) : Calls Try.prog 8 #[.agg #[.slice p n c, .int .i64 d], .agg #[.slice p' n' c', .int .i64 d']] w fun e w' => e = .returned (.bool true) ∧ Below w.heap.size w w' := by
  have g1 : decide ((500 : Int) < (n : Int)) = true := decide_eq_true (by omega)
  obtain ⟨w1, hw1⟩ : ∃ w', w.alloc (.cells #[.slice p n c, .int .i64 d] 24) = w' := ⟨_, rfl⟩
  have hI : Box 24 w.heap.size [.slice p n c, .int .i64 d] w1 := by rw [← hw1]; exact Box.new 24 [.slice p n c, .int .i64 d] w
  have hD : Below w.heap.size w w1 := by rw [← hw1]; exact (Below.refl _ _).alloc (Nat.le_refl _) _
  have hB := hD
  clear hD
  obtain ⟨w2, hw2⟩ : ∃ w', w1.alloc (.cells #[.slice p' n' c', .int .i64 d'] 24) = w' := ⟨_, rfl⟩
  have hK : Box 24 w1.heap.size [.slice p' n' c', .int .i64 d'] w2 := by rw [← hw2]; exact Box.new 24 [.slice p' n' c', .int .i64 d'] w1
  have hD : Below w1.heap.size w1 w2 := by rw [← hw2]; exact (Below.refl _ _).alloc (Nat.le_refl _) _
  replace hI := hI.on hD
  replace hB := hB.trans (hD.mono hB.size)
  clear hD
  go_enter Try.func8, Try.ntmps8
  go_wp2_with fail
  clear hw1 hw2
  refine (awake8_any w2).mono ?_
  rintro e w3 ⟨rfl, hD⟩
  replace hI := hI.on hD
  replace hK := hK.on hD
  replace hB := hB.trans (hD.mono hB.size)
  clear hD
  have chI0 := hI.cell (j := 0) (v := .slice p n c) rfl
  have chI1 := hI.cell (j := 1) (v := .int .i64 d) rfl
  have chK0 := hK.cell (j := 0) (v := .slice p' n' c') rfl
  have chK1 := hK.cell (j := 1) (v := .int .i64 d') rfl
  go_wp2_with fail
  clear chI0 chI1 chK0 chK1
  go_ret
  exact ⟨rfl, hB⟩
set_option maxHeartbeats 8000000 in
set_option maxRecDepth 100000 in
theorem iprf_2 (p p' : Option Addr) (n n' c c' : Nat) (d d' : Int) (w : World) (h : ¬ 500 < n) (h2 : 500 < n') : Calls Try.prog 8 #[.agg #[.slice p n c, .int .i64 d], .agg #[.slice p' n' c', .int .i64 d']] w fun e w' => e = .returned (.bool true) ∧ Below w.heap.size w w' := by
  have g1 : decide ((500 : Int) < (n : Int)) = false := decide_eq_false (by omega)
  have g2 : decide ((500 : Int) < (n' : Int)) = true := decide_eq_true (by omega)
  obtain ⟨w1, hw1⟩ : ∃ w', w.alloc (.cells #[.slice p n c, .int .i64 d] 24) = w' := ⟨_, rfl⟩
  have hI : Box 24 w.heap.size [.slice p n c, .int .i64 d] w1 := by rw [← hw1]; exact Box.new 24 [.slice p n c, .int .i64 d] w
  have hD : Below w.heap.size w w1 := by rw [← hw1]; exact (Below.refl _ _).alloc (Nat.le_refl _) _
  have hB := hD
  clear hD
  obtain ⟨w2, hw2⟩ : ∃ w', w1.alloc (.cells #[.slice p' n' c', .int .i64 d'] 24) = w' := ⟨_, rfl⟩
  have hK : Box 24 w1.heap.size [.slice p' n' c', .int .i64 d'] w2 := by rw [← hw2]; exact Box.new 24 [.slice p' n' c', .int .i64 d'] w1
  have hD : Below w1.heap.size w1 w2 := by rw [← hw2]; exact (Below.refl _ _).alloc (Nat.le_refl _) _
  replace hI := hI.on hD
  replace hB := hB.trans (hD.mono hB.size)
  clear hD
  go_enter Try.func8, Try.ntmps8
  go_wp2_with fail
  clear hw1 hw2
  refine (awake8_any w2).mono ?_
  rintro e w3 ⟨rfl, hD⟩
  replace hI := hI.on hD
  replace hK := hK.on hD
  replace hB := hB.trans (hD.mono hB.size)
  clear hD
  have chI0 := hI.cell (j := 0) (v := .slice p n c) rfl
  have chI1 := hI.cell (j := 1) (v := .int .i64 d) rfl
  have chK0 := hK.cell (j := 0) (v := .slice p' n' c') rfl
  have chK1 := hK.cell (j := 1) (v := .int .i64 d') rfl
  go_wp2_with fail
  clear chI0 chI1 chK0 chK1
  go_ret
  exact ⟨rfl, hB⟩
set_option maxHeartbeats 8000000 in
set_option maxRecDepth 100000 in
theorem iprf_3 (p p' : Option Addr) (n n' c c' : Nat) (d d' : Int) (w : World) (h : ¬ 500 < n) (h2 : ¬ 500 < n') (r : rightM n d = false) : Calls Try.prog 8 #[.agg #[.slice p n c, .int .i64 d], .agg #[.slice p' n' c', .int .i64 d']] w fun e w' => e = .returned (.bool true) ∧ Below w.heap.size w w' := by
  have g1 : decide ((500 : Int) < (n : Int)) = false := decide_eq_false (by omega)
  have g2 : decide ((500 : Int) < (n' : Int)) = false := decide_eq_false (by omega)
  have H := Lib.hid r
  clear r
  obtain ⟨w1, hw1⟩ : ∃ w', w.alloc (.cells #[.slice p n c, .int .i64 d] 24) = w' := ⟨_, rfl⟩
  have hI : Box 24 w.heap.size [.slice p n c, .int .i64 d] w1 := by rw [← hw1]; exact Box.new 24 [.slice p n c, .int .i64 d] w
  have hD : Below w.heap.size w w1 := by rw [← hw1]; exact (Below.refl _ _).alloc (Nat.le_refl _) _
  have hB := hD
  clear hD
  obtain ⟨w2, hw2⟩ : ∃ w', w1.alloc (.cells #[.slice p' n' c', .int .i64 d'] 24) = w' := ⟨_, rfl⟩
  have hK : Box 24 w1.heap.size [.slice p' n' c', .int .i64 d'] w2 := by rw [← hw2]; exact Box.new 24 [.slice p' n' c', .int .i64 d'] w1
  have hD : Below w1.heap.size w1 w2 := by rw [← hw2]; exact (Below.refl _ _).alloc (Nat.le_refl _) _
  replace hI := hI.on hD
  replace hB := hB.trans (hD.mono hB.size)
  clear hD
  go_enter Try.func8, Try.ntmps8
  go_wp2_with fail
  clear hw1 hw2
  refine (awake8_any w2).mono ?_
  rintro e w3 ⟨rfl, hD⟩
  replace hI := hI.on hD
  replace hK := hK.on hD
  replace hB := hB.trans (hD.mono hB.size)
  clear hD
  have chI0 := hI.cell (j := 0) (v := .slice p n c) rfl
  have chI1 := hI.cell (j := 1) (v := .int .i64 d) rfl
  have chK0 := hK.cell (j := 0) (v := .slice p' n' c') rfl
  have chK1 := hK.cell (j := 1) (v := .int .i64 d') rfl
  go_wp2_with fail
  clear chI0 chI1 chK0 chK1
  refine (rright8_val p n c d false w3 H.out).mono ?_
  rintro e w4 ⟨rfl, hD⟩
  replace hI := hI.on hD
  replace hK := hK.on hD
  replace hB := hB.trans (hD.mono hB.size)
  clear hD
  have chK0 := hK.cell (j := 0) (v := .slice p' n' c') rfl
  have chK1 := hK.cell (j := 1) (v := .int .i64 d') rfl
  go_wp2_with fail
  clear chK0 chK1
  go_ret
  exact ⟨rfl, hB⟩
set_option maxHeartbeats 8000000 in
set_option maxRecDepth 100000 in
theorem iprf_4 (p p' : Option Addr) (n n' c c' : Nat) (d d' : Int) (w : World) (h : ¬ 500 < n) (h2 : ¬ 500 < n') (r : rightM n d = true) (r2 : rightM n' d' = false) : Calls Try.prog 8 #[.agg #[.slice p n c, .int .i64 d], .agg #[.slice p' n' c', .int .i64 d']] w fun e w' => e = .returned (.bool true) ∧ Below w.heap.size w w' := by
  have g1 : decide ((500 : Int) < (n : Int)) = false := decide_eq_false (by omega)
  have g2 : decide ((500 : Int) < (n' : Int)) = false := decide_eq_false (by omega)
  have H := Lib.hid r
  have H2 := Lib.hid r2
  clear r r2
  obtain ⟨w1, hw1⟩ : ∃ w', w.alloc (.cells #[.slice p n c, .int .i64 d] 24) = w' := ⟨_, rfl⟩
  have hI : Box 24 w.heap.size [.slice p n c, .int .i64 d] w1 := by rw [← hw1]; exact Box.new 24 [.slice p n c, .int .i64 d] w
  have hD : Below w.heap.size w w1 := by rw [← hw1]; exact (Below.refl _ _).alloc (Nat.le_refl _) _
  have hB := hD
  clear hD
  obtain ⟨w2, hw2⟩ : ∃ w', w1.alloc (.cells #[.slice p' n' c', .int .i64 d'] 24) = w' := ⟨_, rfl⟩
  have hK : Box 24 w1.heap.size [.slice p' n' c', .int .i64 d'] w2 := by rw [← hw2]; exact Box.new 24 [.slice p' n' c', .int .i64 d'] w1
  have hD : Below w1.heap.size w1 w2 := by rw [← hw2]; exact (Below.refl _ _).alloc (Nat.le_refl _) _
  replace hI := hI.on hD
  replace hB := hB.trans (hD.mono hB.size)
  clear hD
  go_enter Try.func8, Try.ntmps8
  go_wp2_with fail
  clear hw1 hw2
  refine (awake8_any w2).mono ?_
  rintro e w3 ⟨rfl, hD⟩
  replace hI := hI.on hD
  replace hK := hK.on hD
  replace hB := hB.trans (hD.mono hB.size)
  clear hD
  have chI0 := hI.cell (j := 0) (v := .slice p n c) rfl
  have chI1 := hI.cell (j := 1) (v := .int .i64 d) rfl
  have chK0 := hK.cell (j := 0) (v := .slice p' n' c') rfl
  have chK1 := hK.cell (j := 1) (v := .int .i64 d') rfl
  go_wp2_with fail
  clear chI0 chI1 chK0 chK1
  refine (rright8_val p n c d true w3 H.out).mono ?_
  rintro e w4 ⟨rfl, hD⟩
  replace hI := hI.on hD
  replace hK := hK.on hD
  replace hB := hB.trans (hD.mono hB.size)
  clear hD
  have chK0 := hK.cell (j := 0) (v := .slice p' n' c') rfl
  have chK1 := hK.cell (j := 1) (v := .int .i64 d') rfl
  go_wp2_with fail
  clear chK0 chK1
  refine (rright8_val p' n' c' d' false w4 H2.out).mono ?_
  rintro e w5 ⟨rfl, hD⟩
  replace hI := hI.on hD
  replace hK := hK.on hD
  replace hB := hB.trans (hD.mono hB.size)
  clear hD
  have chK0 := hK.cell (j := 0) (v := .slice p' n' c') rfl
  have chK1 := hK.cell (j := 1) (v := .int .i64 d') rfl
  go_wp2_with fail
  clear chK0 chK1
  go_ret
  exact ⟨rfl, hB⟩
set_option maxHeartbeats 8000000 in
set_option maxRecDepth 100000 in
theorem iprf_le (p p' : Option Addr) (n n' c c' : Nat) (d d' : Int) (w : World) (xs ys : List Int) (hn : n = xs.length) (hn' : n' = ys.length) (hb : Bd xs) (hb' : Bd ys) (hX : RdW w (.slice p n c) xs) (hY : RdW w (.slice p' n' c') ys) (h : ¬ 500 < n) (h2 : ¬ 500 < n') (r : rightM n d = true) (r2 : rightM n' d' = true) (hlt : n ≤ n') : Calls Try.prog 8 #[.agg #[.slice p n c, .int .i64 d], .agg #[.slice p' n' c', .int .i64 d']] w fun e w' => e = .returned (.bool true) ∧ Below w.heap.size w w' := by
  have g1 : decide ((500 : Int) < (n : Int)) = false := decide_eq_false (by omega)
  have g2 : decide ((500 : Int) < (n' : Int)) = false := decide_eq_false (by omega)
  obtain ⟨t, ht⟩ : ∃ t : ByteArray, t = ⟨(putL d xs).toArray⟩ := ⟨_, rfl⟩
  obtain ⟨u, hu⟩ : ∃ t : ByteArray, t = ⟨(putL d' ys).toArray⟩ := ⟨_, rfl⟩
  have hI : ImgAt t n d xs := by rw [ht, hn]; exact img_put hb (by rw [← hn]; exact r)
  have hI' : ImgAt u n' d' ys := by rw [hu, hn']; exact img_put hb' (by rw [← hn']; exact r2)
  have hz := hI.sz
  have hz' := hI'.sz
  obtain ⟨gs, hgs⟩ : ∃ g, sameM xs ys d d' = g := ⟨_, rfl⟩
  have hle : t.size ≤ u.size := by omega
  have g3 : decide ((t.size : Int) ≤ (u.size : Int)) = true := decide_eq_true (by omega)
  have g5 : decide (t.size ≤ u.size) = true := decide_eq_true hle
  have heq := prefix_same hI hI' hle
  rw [hgs] at heq
  have k0 : (0 : Int) ≤ (t.size : Int) := by omega
  have k1 : (t.size : Int) ≤ (u.size : Int) := by omega
  have HM1 : Hid (xs.length ≤ 1000000) := by show _ ≤ _; omega
  have HM2 : Hid (ys.length ≤ 1000000) := by show _ ≤ _; omega
  have H := Lib.hid r
  have H2 := Lib.hid r2
  have HN := Lib.hid hn
  have HN2 := Lib.hid hn'
  have HT := Lib.hid ht
  have HU := Lib.hid hu
  have HBD := Lib.hid hb
  have HBD2 := Lib.hid hb'
  have HGS := Lib.hid hgs
  clear h h2 r r2 hn hn' ht hu hb hb' hI hI' hz hz' hgs hlt hle
  obtain ⟨w1, hw1⟩ : ∃ w', w.alloc (.cells #[.slice p n c, .int .i64 d] 24) = w' := ⟨_, rfl⟩
  have hI : Box 24 w.heap.size [.slice p n c, .int .i64 d] w1 := by rw [← hw1]; exact Box.new 24 [.slice p n c, .int .i64 d] w
  have hD : Below w.heap.size w w1 := by rw [← hw1]; exact (Below.refl _ _).alloc (Nat.le_refl _) _
  replace hX := hX.on hD
  replace hY := hY.on hD
  have hB := hD
  clear hD
  obtain ⟨w2, hw2⟩ : ∃ w', w1.alloc (.cells #[.slice p' n' c', .int .i64 d'] 24) = w' := ⟨_, rfl⟩
  have hK : Box 24 w1.heap.size [.slice p' n' c', .int .i64 d'] w2 := by rw [← hw2]; exact Box.new 24 [.slice p' n' c', .int .i64 d'] w1
  have hD : Below w1.heap.size w1 w2 := by rw [← hw2]; exact (Below.refl _ _).alloc (Nat.le_refl _) _
  replace hI := hI.on hD
  replace hX := hX.on hD
  replace hY := hY.on hD
  replace hB := hB.trans (hD.mono hB.size)
  clear hD
  go_enter Try.func8, Try.ntmps8
  go_wp2_with fail
  clear hw1 hw2
  refine (awake8_any w2).mono ?_
  rintro e w3 ⟨rfl, hD⟩
  replace hI := hI.on hD
  replace hK := hK.on hD
  replace hX := hX.on hD
  replace hY := hY.on hD
  replace hB := hB.trans (hD.mono hB.size)
  clear hD
  have chI0 := hI.cell (j := 0) (v := .slice p n c) rfl
  have chI1 := hI.cell (j := 1) (v := .int .i64 d) rfl
  have chK0 := hK.cell (j := 0) (v := .slice p' n' c') rfl
  have chK1 := hK.cell (j := 1) (v := .int .i64 d') rfl
  go_wp2_with fail
  clear chI0 chI1 chK0 chK1
  refine (rright8_val p n c d true w3 H.out).mono ?_
  rintro e w4 ⟨rfl, hD⟩
  replace hI := hI.on hD
  replace hK := hK.on hD
  replace hX := hX.on hD
  replace hY := hY.on hD
  replace hB := hB.trans (hD.mono hB.size)
  clear hD
  have chK0 := hK.cell (j := 0) (v := .slice p' n' c') rfl
  have chK1 := hK.cell (j := 1) (v := .int .i64 d') rfl
  go_wp2_with fail
  clear chK0 chK1
  refine (rright8_val p' n' c' d' true w4 H2.out).mono ?_
  rintro e w5 ⟨rfl, hD⟩
  replace hI := hI.on hD
  replace hK := hK.on hD
  replace hX := hX.on hD
  replace hY := hY.on hD
  replace hB := hB.trans (hD.mono hB.size)
  clear hD
  have chI0 := hI.cell (j := 0) (v := .slice p n c) rfl
  have chI1 := hI.cell (j := 1) (v := .int .i64 d) rfl
  go_wp2_with fail
  clear chI0 chI1
  refine (cput8_val p n c d xs t w5 HN.out HBD.out hX H.out HT.out).mono ?_
  rintro e w6 ⟨rfl, hD⟩
  replace hI := hI.on hD
  replace hK := hK.on hD
  replace hX := hX.on hD
  replace hY := hY.on hD
  replace hB := hB.trans (hD.mono hB.size)
  clear hD
  have chK0 := hK.cell (j := 0) (v := .slice p' n' c') rfl
  have chK1 := hK.cell (j := 1) (v := .int .i64 d') rfl
  go_wp2_with fail
  clear chK0 chK1
  refine (cput8_val p' n' c' d' ys u w6 HN2.out HBD2.out hY H2.out HU.out).mono ?_
  rintro e w7 ⟨rfl, hD⟩
  replace hI := hI.on hD
  replace hK := hK.on hD
  replace hX := hX.on hD
  replace hY := hY.on hD
  replace hB := hB.trans (hD.mono hB.size)
  clear hD
  have hXa : RdW w7.drew (.slice p n c) xs := hX
  have hYa : RdW w7.drew (.slice p' n' c') ys := hY
  replace hI : Box 24 (w.heap.size) [.slice p n c, .int .i64 d] w7.drew := hI
  replace hK : Box 24 (w1.heap.size) [.slice p' n' c', .int .i64 d'] w7.drew := hK
  have HS0 : Hid (w7.drew.cell? ⟨w.heap.size, 0, none⟩ = some (.slice p n c) ∧ w7.drew.cell? ⟨w.heap.size, 1, none⟩ = some (.int .i64 d) ∧ w7.drew.cell? ⟨w1.heap.size, 0, none⟩ = some (.slice p' n' c') ∧ w7.drew.cell? ⟨w1.heap.size, 1, none⟩ = some (.int .i64 d')) := ⟨hI.cell rfl, hI.cell rfl, hK.cell rfl, hK.cell rfl⟩
  have g0 := hI.lt
  have g1 := hK.lt
  replace hB : Below w.heap.size w w7.drew := hB.drew
  have hCur : Below w7.drew.heap.size w7.drew w7.drew := Below.refl _ _
  have hszB := hB.size
  clear hI hK
  go_wp2_with fail
  go_region_held3 (fun w' => w'.cell? ⟨w.heap.size, 0, none⟩ = some (.slice p n c) ∧ w'.cell? ⟨w.heap.size, 1, none⟩ = some (.int .i64 d) ∧ w'.cell? ⟨w1.heap.size, 0, none⟩ = some (.slice p' n' c') ∧ w'.cell? ⟨w1.heap.size, 1, none⟩ = some (.int .i64 d'))
    (first
      | exact keepA hCur g0 g1 HS0.out)
    (first
      | (go_at_call 14; (with_reducible refine (rsame8_val p p' n n' c c' xs ys d d' gs _ HN.out HN2.out HM1.out HM2.out (hXa.on hCur) (hYa.on hCur) HGS.out).mono ?_); rintro e wb ⟨rfl, hP⟩; have hCur : Below w7.drew.heap.size w7.drew wb := hCur.trans (hP.mono hCur.size)))
  all_goals
    go_wp2_with fail
    go_ret
    exact ⟨rfl, hB.trans (hCur.mono hszB)⟩
set_option maxHeartbeats 8000000 in
set_option maxRecDepth 100000 in
theorem iprf_gt (p p' : Option Addr) (n n' c c' : Nat) (d d' : Int) (w : World) (xs ys : List Int) (hn : n = xs.length) (hn' : n' = ys.length) (hb : Bd xs) (hb' : Bd ys) (hX : RdW w (.slice p n c) xs) (hY : RdW w (.slice p' n' c') ys) (h : ¬ 500 < n) (h2 : ¬ 500 < n') (r : rightM n d = true) (r2 : rightM n' d' = true) (hlt : n' < n) : Calls Try.prog 8 #[.agg #[.slice p n c, .int .i64 d], .agg #[.slice p' n' c', .int .i64 d']] w fun e w' => e = .returned (.bool true) ∧ Below w.heap.size w w' := by
  have g1 : decide ((500 : Int) < (n : Int)) = false := decide_eq_false (by omega)
  have g2 : decide ((500 : Int) < (n' : Int)) = false := decide_eq_false (by omega)
  obtain ⟨t, ht⟩ : ∃ t : ByteArray, t = ⟨(putL d xs).toArray⟩ := ⟨_, rfl⟩
  obtain ⟨u, hu⟩ : ∃ t : ByteArray, t = ⟨(putL d' ys).toArray⟩ := ⟨_, rfl⟩
  have hI : ImgAt t n d xs := by rw [ht, hn]; exact img_put hb (by rw [← hn]; exact r)
  have hI' : ImgAt u n' d' ys := by rw [hu, hn']; exact img_put hb' (by rw [← hn']; exact r2)
  have hz := hI.sz
  have hz' := hI'.sz
  obtain ⟨gs, hgs⟩ : ∃ g, sameM xs ys d d' = g := ⟨_, rfl⟩
  have hle : ¬ t.size ≤ u.size := by omega
  have g3 : decide ((t.size : Int) ≤ (u.size : Int)) = false := decide_eq_false (by omega)
  have g5 : decide (t.size ≤ u.size) = false := decide_eq_false hle
  have heq := longer_same hI hI' hle
  rw [hgs] at heq
  subst heq
  have g6 : ¬ ((t.size : Int) ≤ (u.size : Int)) := by omega
  have g7 : ¬ t.size ≤ u.size := hle
  have HM1 : Hid (xs.length ≤ 1000000) := by show _ ≤ _; omega
  have HM2 : Hid (ys.length ≤ 1000000) := by show _ ≤ _; omega
  have H := Lib.hid r
  have H2 := Lib.hid r2
  have HN := Lib.hid hn
  have HN2 := Lib.hid hn'
  have HT := Lib.hid ht
  have HU := Lib.hid hu
  have HBD := Lib.hid hb
  have HBD2 := Lib.hid hb'
  have HGS := Lib.hid hgs
  clear h h2 r r2 hn hn' ht hu hb hb' hI hI' hz hz' hgs hlt hle
  obtain ⟨w1, hw1⟩ : ∃ w', w.alloc (.cells #[.slice p n c, .int .i64 d] 24) = w' := ⟨_, rfl⟩
  have hI : Box 24 w.heap.size [.slice p n c, .int .i64 d] w1 := by rw [← hw1]; exact Box.new 24 [.slice p n c, .int .i64 d] w
  have hD : Below w.heap.size w w1 := by rw [← hw1]; exact (Below.refl _ _).alloc (Nat.le_refl _) _
  replace hX := hX.on hD
  replace hY := hY.on hD
  have hB := hD
  clear hD
  obtain ⟨w2, hw2⟩ : ∃ w', w1.alloc (.cells #[.slice p' n' c', .int .i64 d'] 24) = w' := ⟨_, rfl⟩
  have hK : Box 24 w1.heap.size [.slice p' n' c', .int .i64 d'] w2 := by rw [← hw2]; exact Box.new 24 [.slice p' n' c', .int .i64 d'] w1
  have hD : Below w1.heap.size w1 w2 := by rw [← hw2]; exact (Below.refl _ _).alloc (Nat.le_refl _) _
  replace hI := hI.on hD
  replace hX := hX.on hD
  replace hY := hY.on hD
  replace hB := hB.trans (hD.mono hB.size)
  clear hD
  go_enter Try.func8, Try.ntmps8
  go_wp2_with fail
  clear hw1 hw2
  refine (awake8_any w2).mono ?_
  rintro e w3 ⟨rfl, hD⟩
  replace hI := hI.on hD
  replace hK := hK.on hD
  replace hX := hX.on hD
  replace hY := hY.on hD
  replace hB := hB.trans (hD.mono hB.size)
  clear hD
  have chI0 := hI.cell (j := 0) (v := .slice p n c) rfl
  have chI1 := hI.cell (j := 1) (v := .int .i64 d) rfl
  have chK0 := hK.cell (j := 0) (v := .slice p' n' c') rfl
  have chK1 := hK.cell (j := 1) (v := .int .i64 d') rfl
  go_wp2_with fail
  clear chI0 chI1 chK0 chK1
  refine (rright8_val p n c d true w3 H.out).mono ?_
  rintro e w4 ⟨rfl, hD⟩
  replace hI := hI.on hD
  replace hK := hK.on hD
  replace hX := hX.on hD
  replace hY := hY.on hD
  replace hB := hB.trans (hD.mono hB.size)
  clear hD
  have chK0 := hK.cell (j := 0) (v := .slice p' n' c') rfl
  have chK1 := hK.cell (j := 1) (v := .int .i64 d') rfl
  go_wp2_with fail
  clear chK0 chK1
  refine (rright8_val p' n' c' d' true w4 H2.out).mono ?_
  rintro e w5 ⟨rfl, hD⟩
  replace hI := hI.on hD
  replace hK := hK.on hD
  replace hX := hX.on hD
  replace hY := hY.on hD
  replace hB := hB.trans (hD.mono hB.size)
  clear hD
  have chI0 := hI.cell (j := 0) (v := .slice p n c) rfl
  have chI1 := hI.cell (j := 1) (v := .int .i64 d) rfl
  go_wp2_with fail
  clear chI0 chI1
  refine (cput8_val p n c d xs t w5 HN.out HBD.out hX H.out HT.out).mono ?_
  rintro e w6 ⟨rfl, hD⟩
  replace hI := hI.on hD
  replace hK := hK.on hD
  replace hX := hX.on hD
  replace hY := hY.on hD
  replace hB := hB.trans (hD.mono hB.size)
  clear hD
  have chK0 := hK.cell (j := 0) (v := .slice p' n' c') rfl
  have chK1 := hK.cell (j := 1) (v := .int .i64 d') rfl
  go_wp2_with fail
  clear chK0 chK1
  refine (cput8_val p' n' c' d' ys u w6 HN2.out HBD2.out hY H2.out HU.out).mono ?_
  rintro e w7 ⟨rfl, hD⟩
  replace hI := hI.on hD
  replace hK := hK.on hD
  replace hX := hX.on hD
  replace hY := hY.on hD
  replace hB := hB.trans (hD.mono hB.size)
  clear hD
  have hXa : RdW w7.drew (.slice p n c) xs := hX
  have hYa : RdW w7.drew (.slice p' n' c') ys := hY
  replace hI : Box 24 (w.heap.size) [.slice p n c, .int .i64 d] w7.drew := hI
  replace hK : Box 24 (w1.heap.size) [.slice p' n' c', .int .i64 d'] w7.drew := hK
  have HS0 : Hid (w7.drew.cell? ⟨w.heap.size, 0, none⟩ = some (.slice p n c) ∧ w7.drew.cell? ⟨w.heap.size, 1, none⟩ = some (.int .i64 d) ∧ w7.drew.cell? ⟨w1.heap.size, 0, none⟩ = some (.slice p' n' c') ∧ w7.drew.cell? ⟨w1.heap.size, 1, none⟩ = some (.int .i64 d')) := ⟨hI.cell rfl, hI.cell rfl, hK.cell rfl, hK.cell rfl⟩
  have g0 := hI.lt
  have g1 := hK.lt
  replace hB : Below w.heap.size w w7.drew := hB.drew
  have hCur : Below w7.drew.heap.size w7.drew w7.drew := Below.refl _ _
  have hszB := hB.size
  clear hI hK
  go_wp2_with fail
  refine wp_region_held_drew (S := fun w' => w'.cell? ⟨w.heap.size, 0, none⟩ = some (.slice p n c) ∧ w'.cell? ⟨w.heap.size, 1, none⟩ = some (.int .i64 d) ∧ w'.cell? ⟨w1.heap.size, 0, none⟩ = some (.slice p' n' c') ∧ w'.cell? ⟨w1.heap.size, 1, none⟩ = some (.int .i64 d')) (by kernel_rfl) (HS0.out) (fun hHeld => ?_)
  refine wpAnyH_take (i := 0) (oi := _) (v := ?vvb0) rfl (by kernel_rfl) (by kernel_rfl) (by kernel_rfl) (fun _ _ _ h => h) (Or.inl ⟨by kernel_rfl, ?hyb0⟩) hHeld ?restb0
  case hyb0 => intro w hSw; (try dsimp only at hSw); (try go_split_ands); go_simp; try with_reducible rfl
  try simp only [List.getElem_toArray, List.getElem_cons_zero, Act.put, List.setIfInBounds_toArray, List.set_cons_zero, List.set_cons_succ]
  refine wpAnyH_take (i := 1) (oi := _) (v := ?vvb1) rfl (by kernel_rfl) (by kernel_rfl) (by kernel_rfl) (fun _ _ _ h => h) (Or.inl ⟨by kernel_rfl, ?hyb1⟩) hHeld ?restb1
  case hyb1 => intro w hSw; (try dsimp only at hSw); (try go_split_ands); go_simp; try with_reducible rfl
  try simp only [List.getElem_toArray, List.getElem_cons_succ, List.getElem_cons_zero, Act.put, List.setIfInBounds_toArray, List.set_cons_zero, List.set_cons_succ]
  refine wpAnyH_take (i := 2) (oi := _) (v := ?vvb2) rfl (by kernel_rfl) (by kernel_rfl) (by kernel_rfl) (fun _ _ _ h => h) (Or.inl ⟨by kernel_rfl, ?hyb2⟩) hHeld ?restb2
  case hyb2 => intro w hSw; (try dsimp only at hSw); (try go_split_ands); go_simp; try with_reducible rfl
  try simp only [List.getElem_toArray, List.getElem_cons_succ, List.getElem_cons_zero, Act.put, List.setIfInBounds_toArray, List.set_cons_zero, List.set_cons_succ]
  refine wpAnyH_take (i := 3) (oi := _) (v := ?vvb3) rfl (by kernel_rfl) (by kernel_rfl) (by kernel_rfl) (fun _ _ _ h => h) (Or.inl ⟨by kernel_rfl, ?hyb3⟩) hHeld ?restb3
  case hyb3 => intro w hSw; (try dsimp only at hSw); (try go_split_ands); go_simp; try with_reducible rfl
  try simp only [List.getElem_toArray, List.getElem_cons_succ, List.getElem_cons_zero, Act.put, List.setIfInBounds_toArray, List.set_cons_zero, List.set_cons_succ]
  refine wpAnyH_take (i := 4) (oi := _) (v := ?vvb4) rfl (by kernel_rfl) (by kernel_rfl) (by kernel_rfl) (fun _ _ _ h => h) (Or.inl ⟨by kernel_rfl, ?hyb4⟩) hHeld ?restb4
  case hyb4 => intro w hSw; (try dsimp only at hSw); (try go_split_ands); go_simp; try with_reducible rfl
  try simp only [List.getElem_toArray, List.getElem_cons_succ, List.getElem_cons_zero, Act.put, List.setIfInBounds_toArray, List.set_cons_zero, List.set_cons_succ]
  refine wpAnyH_take (i := 5) (oi := _) (v := ?vvb5) rfl (by kernel_rfl) (by kernel_rfl) (by kernel_rfl) (fun _ _ _ h => h) (Or.inl ⟨by kernel_rfl, ?hyb5⟩) hHeld ?restb5
  case hyb5 => intro w hSw; (try dsimp only at hSw); (try go_split_ands); go_simp; try with_reducible rfl
  try simp only [List.getElem_toArray, List.getElem_cons_succ, List.getElem_cons_zero, Act.put, List.setIfInBounds_toArray, List.set_cons_zero, List.set_cons_succ]
  refine wpAnyH_take (i := 6) (oi := _) (v := ?vvb6) rfl (by kernel_rfl) (by kernel_rfl) (by kernel_rfl) (fun _ _ _ h => h) (Or.inl ⟨by kernel_rfl, ?hyb6⟩) hHeld ?restb6
  case hyb6 => intro w hSw; (try dsimp only at hSw); (try go_split_ands); go_simp; try with_reducible rfl
  try simp only [List.getElem_toArray, List.getElem_cons_succ, List.getElem_cons_zero, Act.put, List.setIfInBounds_toArray, List.set_cons_zero, List.set_cons_succ]
  refine wpAnyH_take (i := 7) (oi := _) (v := ?vvb7) rfl (by kernel_rfl) (by kernel_rfl) (by kernel_rfl) (fun _ _ _ h => h) (Or.inl ⟨by kernel_rfl, ?hyb7⟩) hHeld ?restb7
  case hyb7 => intro w hSw; (try dsimp only at hSw); (try go_split_ands); go_simp; try with_reducible rfl
  try simp only [List.getElem_toArray, List.getElem_cons_succ, List.getElem_cons_zero, Act.put, List.setIfInBounds_toArray, List.set_cons_zero, List.set_cons_succ]
  refine wpAnyH_take (i := 8) (oi := _) (v := ?vvb8) rfl (by kernel_rfl) (by kernel_rfl) (by kernel_rfl) (fun _ _ _ h => h) (Or.inl ⟨by kernel_rfl, ?hyb8⟩) hHeld ?restb8
  case hyb8 => intro w hSw; (try dsimp only at hSw); (try go_split_ands); go_simp; try with_reducible rfl
  try simp only [List.getElem_toArray, List.getElem_cons_succ, List.getElem_cons_zero, Act.put, List.setIfInBounds_toArray, List.set_cons_zero, List.set_cons_succ]
  refine wpAnyH_take (i := 9) (oi := _) (v := ?vvb9) rfl (by kernel_rfl) (by kernel_rfl) (by kernel_rfl) (fun _ _ _ h => h) (Or.inl ⟨by kernel_rfl, ?hyb9⟩) hHeld ?restb9
  case hyb9 => intro w hSw; (try dsimp only at hSw); (try go_split_ands); go_simp; try with_reducible rfl
  try simp only [List.getElem_toArray, List.getElem_cons_succ, List.getElem_cons_zero, Act.put, List.setIfInBounds_toArray, List.set_cons_zero, List.set_cons_succ]
  refine wpAnyH_take (i := 10) (oi := _) (v := ?vvb10) rfl (by kernel_rfl) (by kernel_rfl) (by kernel_rfl) (fun _ _ _ h => h) (Or.inl ⟨by kernel_rfl, ?hyb10⟩) hHeld ?restb10
  case hyb10 => intro w hSw; (try dsimp only at hSw); (try go_split_ands); go_simp; try with_reducible rfl
  try simp only [List.getElem_toArray, List.getElem_cons_succ, List.getElem_cons_zero, Act.put, List.setIfInBounds_toArray, List.set_cons_zero, List.set_cons_succ]
  refine wpAnyH_take (i := 11) (oi := _) (v := ?vvb11) rfl (by kernel_rfl) (by kernel_rfl) (by kernel_rfl) (fun _ _ _ h => h) (Or.inl ⟨by kernel_rfl, ?hyb11⟩) hHeld ?restb11
  case hyb11 => intro w hSw; (try dsimp only at hSw); (try go_split_ands); go_simp; try with_reducible rfl
  try simp only [List.getElem_toArray, List.getElem_cons_succ, List.getElem_cons_zero, Act.put, List.setIfInBounds_toArray, List.set_cons_zero, List.set_cons_succ]
  refine wpAnyH_take (i := 12) (oi := _) (v := ?vvb12) rfl (by kernel_rfl) (by kernel_rfl) (by kernel_rfl) (fun _ _ _ h => h) (Or.inl ⟨by kernel_rfl, ?hyb12⟩) hHeld ?restb12
  case hyb12 => intro w hSw; (try dsimp only at hSw); (try go_split_ands); go_simp; try with_reducible rfl
  try simp only [List.getElem_toArray, List.getElem_cons_succ, List.getElem_cons_zero, Act.put, List.setIfInBounds_toArray, List.set_cons_zero, List.set_cons_succ]
  refine wpAnyH_take (i := 13) (oi := _) (v := undef) rfl (by kernel_rfl) (by kernel_rfl) (by kernel_rfl) (fun _ _ _ h => h) (Or.inr ⟨by kernel_rfl, rfl⟩) hHeld ?restb13
  try simp only [List.getElem_toArray, List.getElem_cons_succ, List.getElem_cons_zero, Act.put, List.setIfInBounds_toArray, List.set_cons_zero, List.set_cons_succ]
  refine wpAnyH_take (i := 14) (oi := _) (v := undef) rfl (by kernel_rfl) (by kernel_rfl) (by kernel_rfl) (fun _ _ _ h => h) (Or.inr ⟨by kernel_rfl, rfl⟩) hHeld ?restb14
  try simp only [List.getElem_toArray, List.getElem_cons_succ, List.getElem_cons_zero, Act.put, List.setIfInBounds_toArray, List.set_cons_zero, List.set_cons_succ]
  refine wpAnyH_take (i := 15) (oi := _) (v := undef) rfl (by kernel_rfl) (by kernel_rfl) (by kernel_rfl) (fun _ _ _ h => h) (Or.inr ⟨by kernel_rfl, rfl⟩) hHeld ?restb15
  try simp only [List.getElem_toArray, List.getElem_cons_succ, List.getElem_cons_zero, Act.put, List.setIfInBounds_toArray, List.set_cons_zero, List.set_cons_succ]
  refine wpAnyH_take (i := 16) (oi := _) (v := undef) rfl (by kernel_rfl) (by kernel_rfl) (by kernel_rfl) (fun _ _ _ h => h) (Or.inr ⟨by kernel_rfl, rfl⟩) hHeld ?restb16
  try simp only [List.getElem_toArray, List.getElem_cons_succ, List.getElem_cons_zero, Act.put, List.setIfInBounds_toArray, List.set_cons_zero, List.set_cons_succ]
  refine wpAnyH_take (i := 17) (oi := _) (v := undef) rfl (by kernel_rfl) (by kernel_rfl) (by kernel_rfl) (fun _ _ _ h => h) (Or.inr ⟨by kernel_rfl, rfl⟩) hHeld ?restb17
  try simp only [List.getElem_toArray, List.getElem_cons_succ, List.getElem_cons_zero, Act.put, List.setIfInBounds_toArray, List.set_cons_zero, List.set_cons_succ]
  refine wpAnyH_take (i := 18) (oi := _) (v := undef) rfl (by kernel_rfl) (by kernel_rfl) (by kernel_rfl) (fun _ _ _ h => h) (Or.inr ⟨by kernel_rfl, rfl⟩) hHeld ?restb18
  try simp only [List.getElem_toArray, List.getElem_cons_succ, List.getElem_cons_zero, Act.put, List.setIfInBounds_toArray, List.set_cons_zero, List.set_cons_succ]
  refine wpAnyH_take (i := 19) (oi := _) (v := ?vvb19) rfl (by kernel_rfl) (by kernel_rfl) (by kernel_rfl) (fun _ _ _ h => h) (Or.inl ⟨by kernel_rfl, ?hyb19⟩) hHeld ?restb19
  case hyb19 => intro w hSw; (try dsimp only at hSw); (try go_split_ands); go_simp; try with_reducible rfl
  try simp only [List.getElem_toArray, List.getElem_cons_succ, List.getElem_cons_zero, Act.put, List.setIfInBounds_toArray, List.set_cons_zero, List.set_cons_succ]
  refine wpAnyH_take (i := 20) (oi := _) (v := ?vvb20) rfl (by kernel_rfl) (by kernel_rfl) (by kernel_rfl) (fun _ _ _ h => h) (Or.inl ⟨by kernel_rfl, ?hyb20⟩) hHeld ?restb20
  case hyb20 => intro w hSw; (try dsimp only at hSw); (try go_split_ands); go_simp; try with_reducible rfl
  try simp only [List.getElem_toArray, List.getElem_cons_succ, List.getElem_cons_zero, Act.put, List.setIfInBounds_toArray, List.set_cons_zero, List.set_cons_succ]
  refine wpAnyH_take (i := 21) (oi := _) (v := ?vvb21) rfl (by kernel_rfl) (by kernel_rfl) (by kernel_rfl) (fun _ _ _ h => h) (Or.inl ⟨by kernel_rfl, ?hyb21⟩) hHeld ?restb21
  case hyb21 => intro w hSw; (try dsimp only at hSw); (try go_split_ands); go_simp; try with_reducible rfl
  try simp only [List.getElem_toArray, List.getElem_cons_succ, List.getElem_cons_zero, Act.put, List.setIfInBounds_toArray, List.set_cons_zero, List.set_cons_succ]
  refine wpAnyH_ready (rs := [22]) (by kernel_rfl) (by simp) ?_
  refine AllReadyH.cons (o := _) rfl (fun K hK => ?_) AllReadyH.nil
  go_simp
  refine (rsame8_val p p' n n' c c' xs ys d d' false _ HN.out HN2.out HM1.out HM2.out (hXa.on hCur) (hYa.on hCur) HGS.out).mono ?_; rintro e wb ⟨rfl, hP⟩; have hCur : Below w7.drew.heap.size w7.drew wb := hCur.trans (hP.mono hCur.size)
  go_wp2_with fail
  refine hK.out _ _ (keepA hCur g0 g1 HS0.out) (fun hHeld => ?_)
  clear hK K
  try simp only [List.getElem_toArray, List.getElem_cons_succ, List.getElem_cons_zero, Act.put, List.setIfInBounds_toArray, List.set_cons_zero, List.set_cons_succ]
  refine wpAnyH_take (i := 23) (oi := _) (v := ?vvb23) rfl (by kernel_rfl) (by kernel_rfl) (by kernel_rfl) (fun _ _ _ h => h) (Or.inl ⟨by kernel_rfl, ?hyb23⟩) hHeld ?restb23
  case hyb23 => intro w hSw; (try dsimp only at hSw); (try go_split_ands); go_simp; try with_reducible rfl
  try simp only [List.getElem_toArray, List.getElem_cons_succ, List.getElem_cons_zero, Act.put, List.setIfInBounds_toArray, List.set_cons_zero, List.set_cons_succ]
  refine wpAnyH_take (i := 24) (oi := _) (v := ?vvb24) rfl (by kernel_rfl) (by kernel_rfl) (by kernel_rfl) (fun _ _ _ h => h) (Or.inl ⟨by kernel_rfl, ?hyb24⟩) hHeld ?restb24
  case hyb24 => intro w hSw; (try dsimp only at hSw); (try go_split_ands); go_simp; try with_reducible rfl
  try simp only [List.getElem_toArray, List.getElem_cons_succ, List.getElem_cons_zero, Act.put, List.setIfInBounds_toArray, List.set_cons_zero, List.set_cons_succ]
  refine wpAnyH_take (i := 25) (oi := _) (v := ?vvb25) rfl (by kernel_rfl) (by kernel_rfl) (by kernel_rfl) (fun _ _ _ h => h) (Or.inl ⟨by kernel_rfl, ?hyb25⟩) hHeld ?restb25
  case hyb25 => intro w hSw; (try dsimp only at hSw); (try go_split_ands); go_simp; try with_reducible rfl
  try simp only [List.getElem_toArray, List.getElem_cons_succ, List.getElem_cons_zero, Act.put, List.setIfInBounds_toArray, List.set_cons_zero, List.set_cons_succ]
  refine wpAnyH_done (by kernel_rfl) ?_ _
  all_goals
    go_wp2_with fail
    go_ret
    exact ⟨rfl, hB.trans (hCur.mono hszB)⟩
theorem iprf_walk (p p' : Option Addr) (n n' c c' : Nat) (d d' : Int) (w : World) (xs ys : List Int) (hn : n = xs.length) (hn' : n' = ys.length) (hb : Bd xs) (hb' : Bd ys) (hX : RdW w (.slice p n c) xs) (hY : RdW w (.slice p' n' c') ys) : Calls Try.prog 8 #[.agg #[.slice p n c, .int .i64 d], .agg #[.slice p' n' c', .int .i64 d']] w fun e w' => e = .returned (.bool true) ∧ Below w.heap.size w w' := by
  by_cases h : 500 < n
  · exact iprf_1 p p' n n' c c' d d' w h
  by_cases h2 : 500 < n'
  · exact iprf_2 p p' n n' c c' d d' w h h2
  cases r : rightM n d
  · exact iprf_3 p p' n n' c c' d d' w h h2 r
  cases r2 : rightM n' d'
  · exact iprf_4 p p' n n' c c' d d' w h h2 r r2
  by_cases hl : n ≤ n'
  · exact iprf_le p p' n n' c c' d d' w xs ys hn hn' hb hb' hX hY h h2 r r2 hl
  · exact iprf_gt p p' n n' c c' d d' w xs ys hn hn' hb hb' hX hY h h2 r r2 (by omega)
end Go.Proofs.Ytfaedjpfbaiojaa
