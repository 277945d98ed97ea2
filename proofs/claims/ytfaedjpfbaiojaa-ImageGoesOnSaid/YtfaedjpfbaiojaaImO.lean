/-
  ImageRight, ImagePuts, ImageReads: the walks (written by gen_imO.py).
-/
import Derived.Test.YtfaedjpfbaiojaaImN
import Derived.Deep.RegionHeld3
namespace Go.Proofs.Ytfaedjpfbaiojaa
open Go.RowKit

theorem keepA {B b0 b1 : Nat} {W w' : World} {v0_0 v0_1 v1_0 v1_1 : Value} (h : Below B W w') (g0 : b0 < B) (g1 : b1 < B) (f : W.cell? ⟨b0, 0, none⟩ = some (v0_0) ∧ W.cell? ⟨b0, 1, none⟩ = some (v0_1) ∧ W.cell? ⟨b1, 0, none⟩ = some (v1_0) ∧ W.cell? ⟨b1, 1, none⟩ = some (v1_1)) : w'.cell? ⟨b0, 0, none⟩ = some (v0_0) ∧ w'.cell? ⟨b0, 1, none⟩ = some (v0_1) ∧ w'.cell? ⟨b1, 0, none⟩ = some (v1_0) ∧ w'.cell? ⟨b1, 1, none⟩ = some (v1_1) := by
  obtain ⟨f0, f1, f2, f3⟩ := f
  exact ⟨by rw [h.cell (p := ⟨_, _, none⟩) g0]; exact f0, by rw [h.cell (p := ⟨_, _, none⟩) g0]; exact f1, by rw [h.cell (p := ⟨_, _, none⟩) g1]; exact f2, by rw [h.cell (p := ⟨_, _, none⟩) g1]; exact f3⟩
set_option maxHeartbeats 8000000 in
set_option maxRecDepth 100000 in
theorem iright_l1 (p p' : Option Addr) (n n' c c' : Nat) (d d' : Int) (w : World) (h : 20000 < n) : Calls Try.prog 3 #[.agg #[.slice p n c, .int .i64 d], .agg #[.slice p' n' c', .int .i64 d']] w fun e w' => e = .returned (.bool true) ∧ Below w.heap.size w w' := by
  have g1 : decide ((20000 : Int) < (n : Int)) = true := decide_eq_true (by omega)
  obtain ⟨w1, hw1⟩ : ∃ w', w.alloc (.cells #[.slice p n c, .int .i64 d] 24) = w' := ⟨_, rfl⟩
  have hI : Box 24 w.heap.size [.slice p n c, .int .i64 d] w1 := by rw [← hw1]; exact Box.new 24 [.slice p n c, .int .i64 d] w
  have hD : Below w.heap.size w w1 := by rw [← hw1]; exact (Below.refl _ _).alloc (Nat.le_refl _) _
  have hB := hD
  clear hD
  obtain ⟨w2, hw2⟩ : ∃ w', w1.alloc (.cells #[.slice p' n' c', .int .i64 d'] 24) = w' := ⟨_, rfl⟩
  have hK : Box 24 w1.heap.size [.slice p' n' c', .int .i64 d'] w2 := by rw [← hw2]; exact Box.new 24 [.slice p' n' c', .int .i64 d'] w1
  have hD : Below w1.heap.size w1 w2 := by rw [← hw2]; exact (Below.refl _ _).alloc (Nat.le_refl _) _
  replace hI := hI.on hD
  replace hB := hB.trans (hD.mono hB.size)
  clear hD
  go_enter Try.func3, Try.ntmps3
  go_wp2_with fail
  clear hw1 hw2
  refine (awake8_any w2).mono ?_
  rintro e w3 ⟨rfl, hD⟩
  replace hI := hI.on hD
  replace hK := hK.on hD
  replace hB := hB.trans (hD.mono hB.size)
  clear hD
  have chI0 := hI.cell (j := 0) (v := .slice p n c) rfl
  have chI1 := hI.cell (j := 1) (v := .int .i64 d) rfl
  have chK0 := hK.cell (j := 0) (v := .slice p' n' c') rfl
  have chK1 := hK.cell (j := 1) (v := .int .i64 d') rfl
  go_wp2_with fail
  clear chI0 chI1 chK0 chK1
  go_ret
  exact ⟨rfl, hB⟩
set_option maxHeartbeats 8000000 in
set_option maxRecDepth 100000 in
theorem iright_l2 (p p' : Option Addr) (n n' c c' : Nat) (d d' : Int) (w : World) (h : ¬ 20000 < n) (h2 : 20000 < n') : Calls Try.prog 3 #[.agg #[.slice p n c, .int .i64 d], .agg #[.slice p' n' c', .int .i64 d']] w fun e w' => e = .returned (.bool true) ∧ Below w.heap.size w w' := by
  have g1 : decide ((20000 : Int) < (n : Int)) = false := decide_eq_false (by omega)
  have g2 : decide ((20000 : Int) < (n' : Int)) = true := decide_eq_true (by omega)
  obtain ⟨w1, hw1⟩ : ∃ w', w.alloc (.cells #[.slice p n c, .int .i64 d] 24) = w' := ⟨_, rfl⟩
  have hI : Box 24 w.heap.size [.slice p n c, .int .i64 d] w1 := by rw [← hw1]; exact Box.new 24 [.slice p n c, .int .i64 d] w
  have hD : Below w.heap.size w w1 := by rw [← hw1]; exact (Below.refl _ _).alloc (Nat.le_refl _) _
  have hB := hD
  clear hD
  obtain ⟨w2, hw2⟩ : ∃ w', w1.alloc (.cells #[.slice p' n' c', .int .i64 d'] 24) = w' := ⟨_, rfl⟩
  have hK : Box 24 w1.heap.size [.slice p' n' c', .int .i64 d'] w2 := by rw [← hw2]; exact Box.new 24 [.slice p' n' c', .int .i64 d'] w1
  have hD : Below w1.heap.size w1 w2 := by rw [← hw2]; exact (Below.refl _ _).alloc (Nat.le_refl _) _
  replace hI := hI.on hD
  replace hB := hB.trans (hD.mono hB.size)
  clear hD
  go_enter Try.func3, Try.ntmps3
  go_wp2_with fail
  clear hw1 hw2
  refine (awake8_any w2).mono ?_
  rintro e w3 ⟨rfl, hD⟩
  replace hI := hI.on hD
  replace hK := hK.on hD
  replace hB := hB.trans (hD.mono hB.size)
  clear hD
  have chI0 := hI.cell (j := 0) (v := .slice p n c) rfl
  have chI1 := hI.cell (j := 1) (v := .int .i64 d) rfl
  have chK0 := hK.cell (j := 0) (v := .slice p' n' c') rfl
  have chK1 := hK.cell (j := 1) (v := .int .i64 d') rfl
  go_wp2_with fail
  clear chI0 chI1 chK0 chK1
  go_ret
  exact ⟨rfl, hB⟩
theorem cright8_val (p : Option Addr) (n cap : Nat) (d : Int) (g : Bool) (w : World) (h : rightM n d = g) : Calls Try.prog 11 #[.agg #[.slice p n cap, .int .i64 d]] w fun e w' => e = .returned (.bool g) ∧ Below w.heap.size w w' := by
  subst h; exact cright8_any p n cap d w
theorem csame8_val (p p' : Option Addr) (n n' c c' : Nat) (xs ys : List Int) (d d' : Int) (g : Bool) (w : World) (hn : n = xs.length) (hn' : n' = ys.length) (hm : xs.length ≤ 1000000) (hm' : ys.length ≤ 1000000) (h1 : RdW w (.slice p n c) xs) (h2 : RdW w (.slice p' n' c') ys) (hc : n ≤ c) (hcm : c ≤ maxLen) (hc' : n' ≤ c') (hcm' : c' ≤ maxLen) (hg : sameM xs ys d d' = g) : Calls Try.prog 13 #[.agg #[.slice p n c, .int .i64 d], .agg #[.slice p' n' c', .int .i64 d']] w fun e w' => e = .returned (.bool g) ∧ Below w.heap.size w w' := by
  subst hg; exact csame8_any p p' n n' c c' xs ys d d' w hn hn' hm hm' h1 h2 hc hcm hc' hcm'
set_option maxHeartbeats 8000000 in
set_option maxRecDepth 100000 in
theorem iright_in (p p' : Option Addr) (n n' c c' : Nat) (d d' : Int) (w : World) (xs ys : List Int) (hn : n = xs.length) (hn' : n' = ys.length) (hX : RdW w (.slice p n c) xs) (hY : RdW w (.slice p' n' c') ys) (hc : n ≤ c) (hcm : c ≤ maxLen) (hc' : n' ≤ c') (hcm' : c' ≤ maxLen) (h : ¬ 20000 < n) (h2 : ¬ 20000 < n') : Calls Try.prog 3 #[.agg #[.slice p n c, .int .i64 d], .agg #[.slice p' n' c', .int .i64 d']] w fun e w' => e = .returned (.bool true) ∧ Below w.heap.size w w' := by
  have g1 : decide ((20000 : Int) < (n : Int)) = false := decide_eq_false (by omega)
  have g2 : decide ((20000 : Int) < (n' : Int)) = false := decide_eq_false (by omega)
  have HM1 : Hid (xs.length ≤ 1000000) := by show _ ≤ _; omega
  have HM2 : Hid (ys.length ≤ 1000000) := by show _ ≤ _; omega
  obtain ⟨gr, hgr⟩ : ∃ g, rightM n d = g := ⟨_, rfl⟩
  obtain ⟨gs, hgs⟩ : ∃ g, sameM xs ys d d' = g := ⟨_, rfl⟩
  have HGR := Lib.hid hgr
  have HGS := Lib.hid hgs
  have HN := Lib.hid hn
  have HN2 := Lib.hid hn'
  have HC := Lib.hid hc
  have HCM := Lib.hid hcm
  have HC2 := Lib.hid hc'
  have HCM2 := Lib.hid hcm'
  clear hgr hgs hn hn' hc hcm hc' hcm' h h2
  obtain ⟨w1, hw1⟩ : ∃ w', w.alloc (.cells #[.slice p n c, .int .i64 d] 24) = w' := ⟨_, rfl⟩
  have hI : Box 24 w.heap.size [.slice p n c, .int .i64 d] w1 := by rw [← hw1]; exact Box.new 24 [.slice p n c, .int .i64 d] w
  have hD : Below w.heap.size w w1 := by rw [← hw1]; exact (Below.refl _ _).alloc (Nat.le_refl _) _
  replace hX := hX.on hD
  replace hY := hY.on hD
  have hB := hD
  clear hD
  obtain ⟨w2, hw2⟩ : ∃ w', w1.alloc (.cells #[.slice p' n' c', .int .i64 d'] 24) = w' := ⟨_, rfl⟩
  have hK : Box 24 w1.heap.size [.slice p' n' c', .int .i64 d'] w2 := by rw [← hw2]; exact Box.new 24 [.slice p' n' c', .int .i64 d'] w1
  have hD : Below w1.heap.size w1 w2 := by rw [← hw2]; exact (Below.refl _ _).alloc (Nat.le_refl _) _
  replace hI := hI.on hD
  replace hX := hX.on hD
  replace hY := hY.on hD
  replace hB := hB.trans (hD.mono hB.size)
  clear hD
  go_enter Try.func3, Try.ntmps3
  go_wp2_with fail
  clear hw1 hw2
  refine (awake8_any w2).mono ?_
  rintro e w3 ⟨rfl, hD⟩
  replace hI := hI.on hD
  replace hK := hK.on hD
  replace hX := hX.on hD
  replace hY := hY.on hD
  replace hB := hB.trans (hD.mono hB.size)
  clear hD
  have chI0 := hI.cell (j := 0) (v := .slice p n c) rfl
  have chI1 := hI.cell (j := 1) (v := .int .i64 d) rfl
  have chK0 := hK.cell (j := 0) (v := .slice p' n' c') rfl
  have chK1 := hK.cell (j := 1) (v := .int .i64 d') rfl
  go_wp2_with fail
  clear chI0 chI1 chK0 chK1
  have hXa : RdW w3.drew (.slice p n c) xs := hX
  have hYa : RdW w3.drew (.slice p' n' c') ys := hY
  replace hI : Box 24 (w.heap.size) [.slice p n c, .int .i64 d] w3.drew := hI
  replace hK : Box 24 (w1.heap.size) [.slice p' n' c', .int .i64 d'] w3.drew := hK
  have HS0 : Hid (w3.drew.cell? ⟨w.heap.size, 0, none⟩ = some (.slice p n c) ∧ w3.drew.cell? ⟨w.heap.size, 1, none⟩ = some (.int .i64 d) ∧ w3.drew.cell? ⟨w1.heap.size, 0, none⟩ = some (.slice p' n' c') ∧ w3.drew.cell? ⟨w1.heap.size, 1, none⟩ = some (.int .i64 d')) := ⟨hI.cell rfl, hI.cell rfl, hK.cell rfl, hK.cell rfl⟩
  have g0 := hI.lt
  have g1 := hK.lt
  replace hB : Below w.heap.size w w3.drew := hB.drew
  have hCur : Below w3.drew.heap.size w3.drew w3.drew := Below.refl _ _
  have hszB := hB.size
  clear hI hK
  go_wp2_with fail
  go_region_held3 (fun w' => w'.cell? ⟨w.heap.size, 0, none⟩ = some (.slice p n c) ∧ w'.cell? ⟨w.heap.size, 1, none⟩ = some (.int .i64 d) ∧ w'.cell? ⟨w1.heap.size, 0, none⟩ = some (.slice p' n' c') ∧ w'.cell? ⟨w1.heap.size, 1, none⟩ = some (.int .i64 d'))
    (first
      | exact keepA hCur g0 g1 HS0.out)
    (first
      | (go_at_call 11; (with_reducible refine (cright8_val p n c d gr _ HGR.out).mono ?_); rintro e wb ⟨rfl, hP⟩; have hCur : Below w3.drew.heap.size w3.drew wb := hCur.trans (hP.mono hCur.size))
      | (go_at_call 12; (with_reducible refine (rright8_val p n c d gr _ HGR.out).mono ?_); rintro e wb ⟨rfl, hP⟩; have hCur : Below w3.drew.heap.size w3.drew wb := hCur.trans (hP.mono hCur.size))
      | (go_at_call 13; (with_reducible refine (csame8_val p p' n n' c c' xs ys d d' gs _ HN.out HN2.out HM1.out HM2.out (hXa.on hCur) (hYa.on hCur) HC.out HCM.out HC2.out HCM2.out HGS.out).mono ?_); rintro e wb ⟨rfl, hP⟩; have hCur : Below w3.drew.heap.size w3.drew wb := hCur.trans (hP.mono hCur.size))
      | (go_at_call 14; (with_reducible refine (rsame8_val p p' n n' c c' xs ys d d' gs _ HN.out HN2.out HM1.out HM2.out (hXa.on hCur) (hYa.on hCur) HGS.out).mono ?_); rintro e wb ⟨rfl, hP⟩; have hCur : Below w3.drew.heap.size w3.drew wb := hCur.trans (hP.mono hCur.size)))
  all_goals
    go_wp2_with fail
    go_ret
    exact ⟨rfl, hB.trans (hCur.mono hszB)⟩
theorem iright_walk (p p' : Option Addr) (n n' c c' : Nat) (d d' : Int) (w : World) (xs ys : List Int) (hn : n = xs.length) (hn' : n' = ys.length) (hX : RdW w (.slice p n c) xs) (hY : RdW w (.slice p' n' c') ys) (hc : n ≤ c) (hcm : c ≤ maxLen) (hc' : n' ≤ c') (hcm' : c' ≤ maxLen) : Calls Try.prog 3 #[.agg #[.slice p n c, .int .i64 d], .agg #[.slice p' n' c', .int .i64 d']] w fun e w' => e = .returned (.bool true) ∧ Below w.heap.size w w' := by
  by_cases h : 20000 < n
  · exact iright_l1 p p' n n' c c' d d' w h
  by_cases h2 : 20000 < n'
  · exact iright_l2 p p' n n' c c' d d' w h h2
  exact iright_in p p' n n' c c' d d' w xs ys hn hn' hX hY hc hcm hc' hcm' h h2
set_option maxHeartbeats 8000000 in
set_option maxRecDepth 100000 in
theorem iputs_long (p : Option Addr) (n c : Nat) (d : Int) (w : World) (h : 2000 < n) : Calls Try.prog 4 #[.agg #[.slice p n c, .int .i64 d]] w fun e w' => e = .returned (.bool true) ∧ Below w.heap.size w w' := by
  have g1 : decide ((2000 : Int) < (n : Int)) = true := decide_eq_true (by omega)
  obtain ⟨w1, hw1⟩ : ∃ w', w.alloc (.cells #[.slice p n c, .int .i64 d] 24) = w' := ⟨_, rfl⟩
  have hI : Box 24 w.heap.size [.slice p n c, .int .i64 d] w1 := by rw [← hw1]; exact Box.new 24 [.slice p n c, .int .i64 d] w
  have hD : Below w.heap.size w w1 := by rw [← hw1]; exact (Below.refl _ _).alloc (Nat.le_refl _) _
  have hB := hD
  clear hD
  go_enter Try.func4, Try.ntmps4
  go_wp2_with fail
  clear hw1
  refine (awake8_any w1).mono ?_
  rintro e w2 ⟨rfl, hD⟩
  replace hI := hI.on hD
  replace hB := hB.trans (hD.mono hB.size)
  clear hD
  have chI0 := hI.cell (j := 0) (v := .slice p n c) rfl
  have chI1 := hI.cell (j := 1) (v := .int .i64 d) rfl
  go_wp2_with fail
  clear chI0 chI1
  go_ret
  exact ⟨rfl, hB⟩
theorem no_img_nil : ¬ isImg ⟨#[]⟩ := not_img_size _ fun n => by
  show 0 ≠ _
  omega
set_option maxHeartbeats 8000000 in
set_option maxRecDepth 100000 in
theorem iputs_no (p : Option Addr) (n c : Nat) (d : Int) (w : World) (hs : ¬ 2000 < n) (h : rightM n d = false) : Calls Try.prog 4 #[.agg #[.slice p n c, .int .i64 d]] w fun e w' => e = .returned (.bool true) ∧ Below w.heap.size w w' := by
  have g1 : decide ((2000 : Int) < (n : Int)) = false := decide_eq_false (by omega)
  have H := Lib.hid h
  clear h hs
  obtain ⟨w1, hw1⟩ : ∃ w', w.alloc (.cells #[.slice p n c, .int .i64 d] 24) = w' := ⟨_, rfl⟩
  have hI : Box 24 w.heap.size [.slice p n c, .int .i64 d] w1 := by rw [← hw1]; exact Box.new 24 [.slice p n c, .int .i64 d] w
  have hD : Below w.heap.size w w1 := by rw [← hw1]; exact (Below.refl _ _).alloc (Nat.le_refl _) _
  have hB := hD
  clear hD
  go_enter Try.func4, Try.ntmps4
  go_wp2_with fail
  clear hw1
  refine (awake8_any w1).mono ?_
  rintro e w2 ⟨rfl, hD⟩
  replace hI := hI.on hD
  replace hB := hB.trans (hD.mono hB.size)
  clear hD
  have chI0 := hI.cell (j := 0) (v := .slice p n c) rfl
  have chI1 := hI.cell (j := 1) (v := .int .i64 d) rfl
  go_wp2_with fail
  clear chI0 chI1
  refine (cput8_no p n c d w2 H.out).mono ?_
  rintro e w3 ⟨rfl, hD⟩
  replace hI := hI.on hD
  replace hB := hB.trans (hD.mono hB.size)
  clear hD
  have chI0 := hI.cell (j := 0) (v := .slice p n c) rfl
  have chI1 := hI.cell (j := 1) (v := .int .i64 d) rfl
  go_wp2_with fail
  clear chI0 chI1
  refine (rput8_no p n c d w3 H.out).mono ?_
  rintro e w4 ⟨rfl, hD⟩
  replace hI := hI.on hD
  replace hB := hB.trans (hD.mono hB.size)
  clear hD
  go_wp2_with fail
  have hq := cread8_no ⟨#[]⟩ w4 (Nat.zero_le _) no_img_nil
  refine (hq).mono ?_
  rintro e w5 ⟨rfl, hD⟩
  replace hI := hI.on hD
  replace hB := hB.trans (hD.mono hB.size)
  clear hD
  obtain ⟨w6, hw6⟩ : ∃ w', w5.alloc (.cells #[.slice none 0 0, .int .i64 0] 24) = w' := ⟨_, rfl⟩
  have hZ : Box 24 w5.heap.size [.slice none 0 0, .int .i64 0] w6 := by rw [← hw6]; exact Box.new 24 [.slice none 0 0, .int .i64 0] w5
  have hD : Below w5.heap.size w5 w6 := by rw [← hw6]; exact (Below.refl _ _).alloc (Nat.le_refl _) _
  have zhZ0 := hZ.cell (j := 0) (v := .slice none 0 0) rfl
  have yhZ0 := hZ.fz 0
  have zhZ1 := hZ.cell (j := 1) (v := .int .i64 0) rfl
  have yhZ1 := hZ.fz 1
  obtain ⟨w7, hw7⟩ : ∃ w', ((w6.setCell ⟨w5.heap.size, 0, none⟩ (.slice none 0 0)).setCell ⟨w5.heap.size, 1, none⟩ (.int .i64 0)) = w' := ⟨_, rfl⟩
  replace hZ : Box 24 w5.heap.size [.slice none 0 0, .int .i64 0] w7 := by rw [← hw7]; exact ((hZ.set 0 (.slice none 0 0)).set 1 (.int .i64 0))
  replace hD : Below w5.heap.size w5 w7 := by rw [← hw7]; exact ((hD.setCell (p := ⟨w5.heap.size, 0, none⟩) (Nat.le_refl _) (.slice none 0 0)).setCell (p := ⟨w5.heap.size, 1, none⟩) (Nat.le_refl _) (.int .i64 0))
  replace hI := hI.on hD
  replace hB := hB.trans (hD.mono hB.size)
  clear hD
  have chZ0 := hZ.cell (j := 0) (v := .slice none 0 0) rfl
  have chZ1 := hZ.cell (j := 1) (v := .int .i64 0) rfl
  go_wp2_with fail
  clear hw6 zhZ0 yhZ0 zhZ1 yhZ1 hw7 chZ0 chZ1
  go_ret
  exact ⟨rfl, hB⟩
set_option maxHeartbeats 8000000 in
set_option maxRecDepth 100000 in
theorem iputs_yes (p : Option Addr) (n c : Nat) (d : Int) (xs : List Int) (w : World) (hn : n = xs.length) (hb : Bd xs) (hX : RdW w (.slice p n c) xs) (hs : ¬ 2000 < n) (h : rightM n d = true) : Calls Try.prog 4 #[.agg #[.slice p n c, .int .i64 d]] w fun e w' => e = .returned (.bool true) ∧ Below w.heap.size w w' := by
  have g1 : decide ((2000 : Int) < (n : Int)) = false := decide_eq_false (by omega)
  obtain ⟨t, ht⟩ : ∃ t : ByteArray, t = ⟨(putL d xs).toArray⟩ := ⟨_, rfl⟩
  have HI : Hid (ImgAt t n d xs) := by show ImgAt _ _ _ _; rw [ht, hn]; exact img_put hb (by rw [← hn]; exact h)
  have HM1 : Hid (xs.length ≤ 1000000) := by show _ ≤ _; omega
  have H := Lib.hid h
  have HN := Lib.hid hn
  have HT := Lib.hid ht
  have HBD := Lib.hid hb
  clear h hs hn ht hb
  obtain ⟨w1, hw1⟩ : ∃ w', w.alloc (.cells #[.slice p n c, .int .i64 d] 24) = w' := ⟨_, rfl⟩
  have hI : Box 24 w.heap.size [.slice p n c, .int .i64 d] w1 := by rw [← hw1]; exact Box.new 24 [.slice p n c, .int .i64 d] w
  have hD : Below w.heap.size w w1 := by rw [← hw1]; exact (Below.refl _ _).alloc (Nat.le_refl _) _
  replace hX := hX.on hD
  have hB := hD
  clear hD
  go_enter Try.func4, Try.ntmps4
  go_wp2_with fail
  clear hw1
  refine (awake8_any w1).mono ?_
  rintro e w2 ⟨rfl, hD⟩
  replace hI := hI.on hD
  replace hX := hX.on hD
  replace hB := hB.trans (hD.mono hB.size)
  clear hD
  have chI0 := hI.cell (j := 0) (v := .slice p n c) rfl
  have chI1 := hI.cell (j := 1) (v := .int .i64 d) rfl
  go_wp2_with fail
  clear chI0 chI1
  refine (cput8_val p n c d xs t w2 HN.out HBD.out hX H.out HT.out).mono ?_
  rintro e w3 ⟨rfl, hD⟩
  replace hI := hI.on hD
  replace hX := hX.on hD
  replace hB := hB.trans (hD.mono hB.size)
  clear hD
  have chI0 := hI.cell (j := 0) (v := .slice p n c) rfl
  have chI1 := hI.cell (j := 1) (v := .int .i64 d) rfl
  go_wp2_with fail
  clear chI0 chI1
  refine (rput8_val p n c d xs t w3 HN.out HBD.out hX H.out HT.out).mono ?_
  rintro e w4 ⟨rfl, hD⟩
  replace hI := hI.on hD
  replace hX := hX.on hD
  replace hB := hB.trans (hD.mono hB.size)
  clear hD
  go_wp2_with fail
  refine (cread8_yes t n d xs w4 HI.out).mono ?_
  rintro e w5 ⟨⟨q, c2, rfl, hY⟩, hD⟩
  replace hI := hI.on hD
  replace hX := hX.on hD
  replace hB := hB.trans (hD.mono hB.size)
  clear hD
  obtain ⟨w6, hw6⟩ : ∃ w', w5.alloc (.cells #[.slice q n c2, .int .i64 d] 24) = w' := ⟨_, rfl⟩
  have hZ : Box 24 w5.heap.size [.slice q n c2, .int .i64 d] w6 := by rw [← hw6]; exact Box.new 24 [.slice q n c2, .int .i64 d] w5
  have hD : Below w5.heap.size w5 w6 := by rw [← hw6]; exact (Below.refl _ _).alloc (Nat.le_refl _) _
  replace hI := hI.on hD
  replace hX := hX.on hD
  replace hY := hY.on hD
  replace hB := hB.trans (hD.mono hB.size)
  clear hD
  have chI0 := hI.cell (j := 0) (v := .slice p n c) rfl
  have chI1 := hI.cell (j := 1) (v := .int .i64 d) rfl
  have chZ0 := hZ.cell (j := 0) (v := .slice q n c2) rfl
  have chZ1 := hZ.cell (j := 1) (v := .int .i64 d) rfl
  go_wp2_with fail
  clear hw6 chI0 chI1 chZ0 chZ1
  refine (rsame8_val q p n n c2 c xs xs d d true w6 HN.out HN.out HM1.out HM1.out hY hX (same_self _ _)).mono ?_
  rintro e w7 ⟨rfl, hD⟩
  replace hI := hI.on hD
  replace hZ := hZ.on hD
  replace hX := hX.on hD
  replace hY := hY.on hD
  replace hB := hB.trans (hD.mono hB.size)
  clear hD
  go_wp2_with fail
  go_ret
  exact ⟨rfl, hB⟩
theorem iputs_walk (p : Option Addr) (n c : Nat) (d : Int) (xs : List Int) (w : World) (hn : n = xs.length) (hb : Bd xs) (hX : RdW w (.slice p n c) xs) : Calls Try.prog 4 #[.agg #[.slice p n c, .int .i64 d]] w fun e w' => e = .returned (.bool true) ∧ Below w.heap.size w w' := by
  by_cases hs : 2000 < n
  · exact iputs_long p n c d w hs
  cases h : rightM n d
  · exact iputs_no p n c d w hs h
  · exact iputs_yes p n c d xs w hn hb hX hs h
set_option maxHeartbeats 8000000 in
set_option maxRecDepth 100000 in
theorem ireads_long (s : ByteArray) (w : World) (h : 8000 < s.size) : Calls Try.prog 5 #[.string s] w fun e w' => e = .returned (.bool true) ∧ Below w.heap.size w w' := by
  have g1 : decide ((8000 : Int) < (s.size : Int)) = true := decide_eq_true (by omega)
  clear h
  go_enter Try.func5, Try.ntmps5
  go_wp2_with fail
  refine (awake8_any w).mono ?_
  rintro e w1 ⟨rfl, hD⟩
  have hB := hD
  clear hD
  go_wp2_with fail
  go_ret
  exact ⟨rfl, hB⟩
set_option maxHeartbeats 8000000 in
set_option maxRecDepth 100000 in
theorem ireads_no (s : ByteArray) (w : World) (h : ¬ 8000 < s.size) (hn : ¬ isImg s) : Calls Try.prog 5 #[.string s] w fun e w' => e = .returned (.bool true) ∧ Below w.heap.size w w' := by
  have g1 : decide ((8000 : Int) < (s.size : Int)) = false := decide_eq_false (by omega)
  have hm : s.size ≤ 1000000 := by omega
  have H := Lib.hid hn
  clear h hn
  go_enter Try.func5, Try.ntmps5
  go_wp2_with fail
  refine (awake8_any w).mono ?_
  rintro e w1 ⟨rfl, hD⟩
  have hB := hD
  clear hD
  go_wp2_with fail
  refine (cread8_no s w1 hm H.out).mono ?_
  rintro e w2 ⟨rfl, hD⟩
  replace hB := hB.trans (hD.mono hB.size)
  clear hD
  obtain ⟨w3, hw3⟩ : ∃ w', w2.alloc (.cells #[.slice none 0 0, .int .i64 0] 24) = w' := ⟨_, rfl⟩
  have hI : Box 24 w2.heap.size [.slice none 0 0, .int .i64 0] w3 := by rw [← hw3]; exact Box.new 24 [.slice none 0 0, .int .i64 0] w2
  have hD : Below w2.heap.size w2 w3 := by rw [← hw3]; exact (Below.refl _ _).alloc (Nat.le_refl _) _
  have zhI0 := hI.cell (j := 0) (v := .slice none 0 0) rfl
  have yhI0 := hI.fz 0
  have zhI1 := hI.cell (j := 1) (v := .int .i64 0) rfl
  have yhI1 := hI.fz 1
  obtain ⟨w4, hw4⟩ : ∃ w', ((w3.setCell ⟨w2.heap.size, 0, none⟩ (.slice none 0 0)).setCell ⟨w2.heap.size, 1, none⟩ (.int .i64 0)) = w' := ⟨_, rfl⟩
  replace hI : Box 24 w2.heap.size [.slice none 0 0, .int .i64 0] w4 := by rw [← hw4]; exact ((hI.set 0 (.slice none 0 0)).set 1 (.int .i64 0))
  replace hD : Below w2.heap.size w2 w4 := by rw [← hw4]; exact ((hD.setCell (p := ⟨w2.heap.size, 0, none⟩) (Nat.le_refl _) (.slice none 0 0)).setCell (p := ⟨w2.heap.size, 1, none⟩) (Nat.le_refl _) (.int .i64 0))
  replace hB := hB.trans (hD.mono hB.size)
  clear hD
  go_wp2_with fail
  clear hw3 zhI0 yhI0 zhI1 yhI1 hw4
  refine (rread8_no s w4 hm H.out).mono ?_
  rintro e w5 ⟨rfl, hD⟩
  replace hI := hI.on hD
  replace hB := hB.trans (hD.mono hB.size)
  clear hD
  obtain ⟨w6, hw6⟩ : ∃ w', w5.alloc (.cells #[.slice none 0 0, .int .i64 0] 24) = w' := ⟨_, rfl⟩
  have hK : Box 24 w5.heap.size [.slice none 0 0, .int .i64 0] w6 := by rw [← hw6]; exact Box.new 24 [.slice none 0 0, .int .i64 0] w5
  have hD : Below w5.heap.size w5 w6 := by rw [← hw6]; exact (Below.refl _ _).alloc (Nat.le_refl _) _
  have zhK0 := hK.cell (j := 0) (v := .slice none 0 0) rfl
  have yhK0 := hK.fz 0
  have zhK1 := hK.cell (j := 1) (v := .int .i64 0) rfl
  have yhK1 := hK.fz 1
  obtain ⟨w7, hw7⟩ : ∃ w', ((w6.setCell ⟨w5.heap.size, 0, none⟩ (.slice none 0 0)).setCell ⟨w5.heap.size, 1, none⟩ (.int .i64 0)) = w' := ⟨_, rfl⟩
  replace hK : Box 24 w5.heap.size [.slice none 0 0, .int .i64 0] w7 := by rw [← hw7]; exact ((hK.set 0 (.slice none 0 0)).set 1 (.int .i64 0))
  replace hD : Below w5.heap.size w5 w7 := by rw [← hw7]; exact ((hD.setCell (p := ⟨w5.heap.size, 0, none⟩) (Nat.le_refl _) (.slice none 0 0)).setCell (p := ⟨w5.heap.size, 1, none⟩) (Nat.le_refl _) (.int .i64 0))
  replace hI := hI.on hD
  replace hB := hB.trans (hD.mono hB.size)
  clear hD
  have chI0 := hI.cell (j := 0) (v := .slice none 0 0) rfl
  have chI1 := hI.cell (j := 1) (v := .int .i64 0) rfl
  have chK0 := hK.cell (j := 0) (v := .slice none 0 0) rfl
  have chK1 := hK.cell (j := 1) (v := .int .i64 0) rfl
  go_wp2_with fail
  clear hw6 zhK0 yhK0 zhK1 yhK1 hw7 chI0 chI1 chK0 chK1
  refine (rsame8_val none none 0 0 0 0 [] [] 0 0 true w7 rfl rfl (Nat.zero_le _) (Nat.zero_le _) (RdW.nil _) (RdW.nil _) (same_self _ _)).mono ?_
  rintro e w8 ⟨rfl, hD⟩
  replace hI := hI.on hD
  replace hK := hK.on hD
  replace hB := hB.trans (hD.mono hB.size)
  clear hD
  go_wp2_with fail
  go_ret
  exact ⟨rfl, hB⟩
set_option maxHeartbeats 8000000 in
set_option maxRecDepth 100000 in
theorem ireads_yes (s : ByteArray) (n : Nat) (d : Int) (xs : List Int) (w : World) (h : ¬ 8000 < s.size) (hI : ImgAt s n d xs) : Calls Try.prog 5 #[.string s] w fun e w' => e = .returned (.bool true) ∧ Below w.heap.size w w' := by
  obtain ⟨hsb, hbd, hrm, hlen⟩ := img_is hI
  have g1 : decide ((8000 : Int) < (s.size : Int)) = false := decide_eq_false (by omega)
  have HM1 : Hid (xs.length ≤ 1000000) := by show _ ≤ _; have := hI.hn; omega
  have HI := Lib.hid hI
  have HS := Lib.hid hsb
  have HBD := Lib.hid hbd
  have HR := Lib.hid hrm
  have HN : Hid (n = xs.length) := hlen.symm
  clear h hI hsb hbd hrm hlen
  go_enter Try.func5, Try.ntmps5
  go_wp2_with fail
  refine (awake8_any w).mono ?_
  rintro e w1 ⟨rfl, hD⟩
  have hB := hD
  clear hD
  go_wp2_with fail
  refine (cread8_yes s n d xs w1 HI.out).mono ?_
  rintro e w2 ⟨⟨p, c, rfl, hX⟩, hD⟩
  replace hB := hB.trans (hD.mono hB.size)
  clear hD
  obtain ⟨w3, hw3⟩ : ∃ w', w2.alloc (.cells #[.slice p n c, .int .i64 d] 24) = w' := ⟨_, rfl⟩
  have hI : Box 24 w2.heap.size [.slice p n c, .int .i64 d] w3 := by rw [← hw3]; exact Box.new 24 [.slice p n c, .int .i64 d] w2
  have hD : Below w2.heap.size w2 w3 := by rw [← hw3]; exact (Below.refl _ _).alloc (Nat.le_refl _) _
  replace hX := hX.on hD
  replace hB := hB.trans (hD.mono hB.size)
  clear hD
  go_wp2_with fail
  clear hw3
  refine (rread8_yes s n d xs w3 HI.out).mono ?_
  rintro e w4 ⟨⟨q, c2, rfl, hY⟩, hD⟩
  replace hI := hI.on hD
  replace hX := hX.on hD
  replace hB := hB.trans (hD.mono hB.size)
  clear hD
  obtain ⟨w5, hw5⟩ : ∃ w', w4.alloc (.cells #[.slice q n c2, .int .i64 d] 24) = w' := ⟨_, rfl⟩
  have hK : Box 24 w4.heap.size [.slice q n c2, .int .i64 d] w5 := by rw [← hw5]; exact Box.new 24 [.slice q n c2, .int .i64 d] w4
  have hD : Below w4.heap.size w4 w5 := by rw [← hw5]; exact (Below.refl _ _).alloc (Nat.le_refl _) _
  replace hI := hI.on hD
  replace hX := hX.on hD
  replace hY := hY.on hD
  replace hB := hB.trans (hD.mono hB.size)
  clear hD
  have chI0 := hI.cell (j := 0) (v := .slice p n c) rfl
  have chI1 := hI.cell (j := 1) (v := .int .i64 d) rfl
  have chK0 := hK.cell (j := 0) (v := .slice q n c2) rfl
  have chK1 := hK.cell (j := 1) (v := .int .i64 d) rfl
  go_wp2_with fail
  clear hw5 chI0 chI1 chK0 chK1
  refine (rsame8_val p q n n c c2 xs xs d d true w5 HN.out HN.out HM1.out HM1.out hX hY (same_self _ _)).mono ?_
  rintro e w6 ⟨rfl, hD⟩
  replace hI := hI.on hD
  replace hK := hK.on hD
  replace hX := hX.on hD
  replace hY := hY.on hD
  replace hB := hB.trans (hD.mono hB.size)
  clear hD
  have chI0 := hI.cell (j := 0) (v := .slice p n c) rfl
  have chI1 := hI.cell (j := 1) (v := .int .i64 d) rfl
  go_wp2_with fail
  clear chI0 chI1
  refine (cput8_val p n c d xs s w6 HN.out HBD.out hX HR.out HS.out).mono ?_
  rintro e w7 ⟨rfl, hD⟩
  replace hI := hI.on hD
  replace hK := hK.on hD
  replace hX := hX.on hD
  replace hY := hY.on hD
  replace hB := hB.trans (hD.mono hB.size)
  clear hD
  go_wp2_with fail
  go_ret
  exact ⟨rfl, hB⟩
theorem ireads_walk (s : ByteArray) (w : World) : Calls Try.prog 5 #[.string s] w fun e w' => e = .returned (.bool true) ∧ Below w.heap.size w w' := by
  by_cases h : 8000 < s.size
  · exact ireads_long s w h
  by_cases hI : isImg s
  · obtain ⟨n, d, xs, hI⟩ := hI
    exact ireads_yes s n d xs w h hI
  · exact ireads_no s w h hI
end Go.Proofs.Ytfaedjpfbaiojaa
