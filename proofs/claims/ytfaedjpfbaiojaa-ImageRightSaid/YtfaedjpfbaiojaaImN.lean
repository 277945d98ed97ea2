/-
  The layer's examples are kept (written by gen_imN.py).
-/
import Derived.Test.YtfaedjpfbaiojaaImK
namespace Go.Proofs.Ytfaedjpfbaiojaa
open Go.RowKit

theorem cput8_val (p : Option Addr) (n c : Nat) (d : Int) (xs : List Int) (t : ByteArray) (w : World) (hn : n = xs.length) (hb : Bd xs) (hX : RdW w (.slice p n c) xs) (h : rightM n d = true) (ht : t = ⟨(putL d xs).toArray⟩) : Calls Try.prog 15 #[.agg #[.slice p n c, .int .i64 d]] w fun e w' => e = .returned (.tuple #[.string t, .int .i64 0]) ∧ Below w.heap.size w w' := by
  subst ht; exact cput8_yes p n c d xs w hn hb hX h
theorem rput8_val (p : Option Addr) (n c : Nat) (d : Int) (xs : List Int) (t : ByteArray) (w : World) (hn : n = xs.length) (hb : Bd xs) (hX : RdW w (.slice p n c) xs) (h : rightM n d = true) (ht : t = ⟨(putL d xs).toArray⟩) : Calls Try.prog 16 #[.agg #[.slice p n c, .int .i64 d]] w fun e w' => e = .returned (.tuple #[.string t, .int .i64 0]) ∧ Below w.heap.size w w' := by
  subst ht; exact rput8_yes p n c d xs w hn hb hX h
theorem rsame8_val (p p' : Option Addr) (n n' c c' : Nat) (xs ys : List Int) (d d' : Int) (g : Bool) (w : World) (hn : n = xs.length) (hn' : n' = ys.length) (hm : xs.length ≤ 1000000) (hm' : ys.length ≤ 1000000) (h1 : RdW w (.slice p n c) xs) (h2 : RdW w (.slice p' n' c') ys) (hg : sameM xs ys d d' = g) : Calls Try.prog 14 #[.agg #[.slice p n c, .int .i64 d], .agg #[.slice p' n' c', .int .i64 d']] w fun e w' => e = .returned (.bool g) ∧ Below w.heap.size w w' := by
  subst hg; exact rsame8_any p p' n n' c c' xs ys d d' w hn hn' hm hm' h1 h2
theorem same_self (xs : List Int) (d : Int) : sameM xs xs d d = true := by unfold sameM; simp
theorem not_img_size (s : ByteArray) (h : ∀ n : Nat, s.size ≠ 12 + 4 * n) : ¬ isImg s := fun ⟨n, _, _, hI⟩ => h n hI.sz
theorem one_new (w : World) (x : Int) : RdW (w.alloc (.cells #[.int .u32 x] 35)) (.slice (some ⟨w.heap.size, 0, none⟩) 1 1) [x] := by
  refine ⟨some ⟨w.heap.size, 0, none⟩, 1, rfl, fun _ => ⟨w.heap.size, 0, rfl, ?_, fun k hk => ?_⟩⟩
  · simp
  · rw [World.cell?_alloc_new]
    match k, hk with
    | 0, _ => rfl
/-- The example's bytes. -/
def exB : ByteArray := ⟨#[83, 69, 69, 68, 1, 0, 0, 0, 2, 0, 0, 0, 5, 0, 0, 0]⟩
theorem exB_put : exB = ⟨(putL 2 [5]).toArray⟩ := by
  have h : putL 2 [5] = [83, 69, 69, 68, 1, 0, 0, 0, 2, 0, 0, 0, 5, 0, 0, 0] := by decide
  rw [h]; rfl
theorem exB_img : ImgAt exB 1 2 [5] := by
  rw [exB_put]
  exact img_put (fun x hx => by simp at hx; omega) (by decide)
theorem exB_more : ¬ isImg (exB ++ ⟨#[120]⟩) := not_img_size _ fun n => by
  have : (exB ++ ⟨#[120]⟩ : ByteArray).size = 17 := by rfl
  omega
theorem ex_all : ∃ b : ByteArray, b = ⟨(putL 2 [5]).toArray⟩ ∧ ImgAt b 1 2 [5] ∧ ¬ isImg (b ++ ⟨#[120]⟩) ∧ (b.toList == [83, 69, 69, 68, 1, 0, 0, 0, 2, 0, 0, 0, 5, 0, 0, 0]) = true ∧ (b ++ ⟨#[120]⟩ : ByteArray).size ≤ 1000000 ∧ ¬ 9223372036854775807 < b.size + 1 :=
  ⟨exB, exB_put, exB_img, exB_more, by rw [ByteArray.toList_eq]; rfl, by show 17 ≤ 1000000; omega, by show ¬ 9223372036854775807 < 17; omega⟩
theorem right_ex : rightM 1 2 = true := by decide
theorem right_neg : rightM 0 (-1) = false := by decide
set_option maxHeartbeats 8000000 in
set_option maxRecDepth 100000 in
theorem awake8_any (w : World) : Calls Try.prog 10 #[] w fun e w' => e = .returned (.bool true) ∧ Below w.heap.size w w' := by
  obtain ⟨b, hbp, hbi, hbm, hexL, hbz, hqx⟩ := ex_all
  have HBP := Lib.hid hbp
  have HBI := Lib.hid hbi
  have HBM := Lib.hid hbm
  clear hbp hbi hbm
  obtain ⟨w1, hw1⟩ : ∃ w', w.alloc (.cells #[.int .u32 5] 35) = w' := ⟨_, rfl⟩
  have hA : Box 35 w.heap.size [.int .u32 5] w1 := by rw [← hw1]; exact Box.new 35 [.int .u32 5] w
  have hD : Below w.heap.size w w1 := by rw [← hw1]; exact (Below.refl _ _).alloc (Nat.le_refl _) _
  have hB := hD
  clear hD
  have hX : RdW w1 (.slice (some ⟨w.heap.size, 0, none⟩) 1 1) [5] := by rw [← hw1]; exact one_new w 5
  obtain ⟨w2, hw2⟩ : ∃ w', w1.alloc (.cells #[.slice (some ⟨w.heap.size, 0, none⟩) 1 1, .int .i64 2] 24) = w' := ⟨_, rfl⟩
  have hM : Box 24 w1.heap.size [.slice (some ⟨w.heap.size, 0, none⟩) 1 1, .int .i64 2] w2 := by rw [← hw2]; exact Box.new 24 [.slice (some ⟨w.heap.size, 0, none⟩) 1 1, .int .i64 2] w1
  have hD : Below w1.heap.size w1 w2 := by rw [← hw2]; exact (Below.refl _ _).alloc (Nat.le_refl _) _
  replace hA := hA.on hD
  replace hX := hX.on hD
  replace hB := hB.trans (hD.mono hB.size)
  clear hD
  go_enter Try.func10, Try.ntmps10
  have chM0 := hM.cell (j := 0) (v := .slice (some ⟨w.heap.size, 0, none⟩) 1 1) rfl
  have chM1 := hM.cell (j := 1) (v := .int .i64 2) rfl
  go_wp2_with fail
  clear hw1 hw2 chM0 chM1
  have hb5 : Bd [5] := fun x hx => by simp at hx; omega
  refine (cput8_val (some ⟨w.heap.size, 0, none⟩) 1 1 2 [5] b w2 rfl hb5 hX right_ex HBP.out).mono ?_
  rintro e w3 ⟨rfl, hD⟩
  replace hA := hA.on hD
  replace hM := hM.on hD
  replace hX := hX.on hD
  replace hB := hB.trans (hD.mono hB.size)
  clear hD
  go_wp2_with fail
  refine (cread8_yes b 1 2 [5] w3 HBI.out).mono ?_
  rintro e w4 ⟨⟨p, c, rfl, hY⟩, hD⟩
  replace hA := hA.on hD
  replace hM := hM.on hD
  replace hX := hX.on hD
  replace hB := hB.trans (hD.mono hB.size)
  clear hD
  obtain ⟨w5, hw5⟩ : ∃ w', w4.alloc (.cells #[.slice p 1 c, .int .i64 2] 24) = w' := ⟨_, rfl⟩
  have hN : Box 24 w4.heap.size [.slice p 1 c, .int .i64 2] w5 := by rw [← hw5]; exact Box.new 24 [.slice p 1 c, .int .i64 2] w4
  have hD : Below w4.heap.size w4 w5 := by rw [← hw5]; exact (Below.refl _ _).alloc (Nat.le_refl _) _
  replace hA := hA.on hD
  replace hM := hM.on hD
  replace hX := hX.on hD
  replace hY := hY.on hD
  replace hB := hB.trans (hD.mono hB.size)
  clear hD
  go_wp2_with fail
  clear hw5
  have hq := cread8_no (b ++ ⟨#[120]⟩) w5 hbz HBM.out
  refine (hq).mono ?_
  rintro e w6 ⟨rfl, hD⟩
  replace hA := hA.on hD
  replace hM := hM.on hD
  replace hN := hN.on hD
  replace hX := hX.on hD
  replace hY := hY.on hD
  replace hB := hB.trans (hD.mono hB.size)
  clear hD
  obtain ⟨w7, hw7⟩ : ∃ w', w6.alloc (.cells #[.slice none 0 0, .int .i64 0] 24) = w' := ⟨_, rfl⟩
  have hZ : Box 24 w6.heap.size [.slice none 0 0, .int .i64 0] w7 := by rw [← hw7]; exact Box.new 24 [.slice none 0 0, .int .i64 0] w6
  have hD : Below w6.heap.size w6 w7 := by rw [← hw7]; exact (Below.refl _ _).alloc (Nat.le_refl _) _
  have zhZ0 := hZ.cell (j := 0) (v := .slice none 0 0) rfl
  have yhZ0 := hZ.fz 0
  have zhZ1 := hZ.cell (j := 1) (v := .int .i64 0) rfl
  have yhZ1 := hZ.fz 1
  obtain ⟨w8, hw8⟩ : ∃ w', ((w7.setCell ⟨w6.heap.size, 0, none⟩ (.slice none 0 0)).setCell ⟨w6.heap.size, 1, none⟩ (.int .i64 0)) = w' := ⟨_, rfl⟩
  replace hZ : Box 24 w6.heap.size [.slice none 0 0, .int .i64 0] w8 := by rw [← hw8]; exact ((hZ.set 0 (.slice none 0 0)).set 1 (.int .i64 0))
  replace hD : Below w6.heap.size w6 w8 := by rw [← hw8]; exact ((hD.setCell (p := ⟨w6.heap.size, 0, none⟩) (Nat.le_refl _) (.slice none 0 0)).setCell (p := ⟨w6.heap.size, 1, none⟩) (Nat.le_refl _) (.int .i64 0))
  replace hA := hA.on hD
  replace hM := hM.on hD
  replace hN := hN.on hD
  replace hX := hX.on hD
  replace hY := hY.on hD
  replace hB := hB.trans (hD.mono hB.size)
  clear hD
  go_wp2_with fail
  clear hw7 zhZ0 yhZ0 zhZ1 yhZ1 hw8
  refine (cput8_no none 0 0 (-1) w8 right_neg).mono ?_
  rintro e w9 ⟨rfl, hD⟩
  replace hA := hA.on hD
  replace hM := hM.on hD
  replace hN := hN.on hD
  replace hZ := hZ.on hD
  replace hX := hX.on hD
  replace hY := hY.on hD
  replace hB := hB.trans (hD.mono hB.size)
  clear hD
  have chM0 := hM.cell (j := 0) (v := .slice (some ⟨w.heap.size, 0, none⟩) 1 1) rfl
  have chM1 := hM.cell (j := 1) (v := .int .i64 2) rfl
  have chN0 := hN.cell (j := 0) (v := .slice p 1 c) rfl
  have chN1 := hN.cell (j := 1) (v := .int .i64 2) rfl
  go_wp2_with fail
  clear chM0 chM1 chN0 chN1
  refine (rsame8_val (some ⟨w.heap.size, 0, none⟩) p 1 1 1 c [5] [5] 2 2 true w9 rfl rfl (by decide) (by decide) hX hY (same_self _ _)).mono ?_
  rintro e w10 ⟨rfl, hD⟩
  replace hA := hA.on hD
  replace hM := hM.on hD
  replace hN := hN.on hD
  replace hZ := hZ.on hD
  replace hX := hX.on hD
  replace hY := hY.on hD
  replace hB := hB.trans (hD.mono hB.size)
  clear hD
  go_wp2_with fail
  go_ret
  exact ⟨rfl, hB⟩
end Go.Proofs.Ytfaedjpfbaiojaa
