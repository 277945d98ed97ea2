/-
  ImageCut, ImagePrefix: the walks (written by gen_imQ.py).
-/
import Derived.Test.YtfaedjpfbaiojaaImO
namespace Go.Proofs.Ytfaedjpfbaiojaa
open Go.RowKit

theorem wAt_prefix {l m : List UInt8} (h : l <+: m) (k : Nat) (hk : 4 * k + 3 < l.length) : wAt l k = wAt m k := by
  obtain ⟨r, rfl⟩ := h
  have e : ∀ j, j < l.length → (l ++ r).getD j 0 = l.getD j 0 := fun j hj => by
    rw [List.getD_eq_getElem?_getD, List.getD_eq_getElem?_getD, List.getElem?_append_left hj]
  unfold wAt
  rw [e _ (by omega), e _ (by omega), e _ (by omega), e _ (by omega)]
/-- No image begins another one. -/
theorem img_prefix {s s' : ByteArray} {n n' : Nat} {d d' : Int} {xs xs' : List Int} (h : ImgAt s n d xs) (h' : ImgAt s' n' d' xs') (hp : s'.data.toList <+: s.data.toList) : s' = s := by
  have l1 : s.data.toList.length = s.size := len_toList s
  have l2 : s'.data.toList.length = s'.size := len_toList s'
  have z1 := h.sz
  have z2 := h'.sz
  have w1 := fw_at s 1 (by omega)
  have w2 := fw_at s' 1 (by omega)
  have e := wAt_prefix hp 1 (by omega)
  rw [← w1, ← w2] at e
  have e2 : (n' : Int) = (n : Int) := h'.nw.symm.trans (e.trans h.nw)
  have e3 : n' = n := by omega
  have e4 := hp.eq_of_length (by omega)
  apply ByteArray.ext
  exact Array.ext' e4
theorem not_img_more {s m : ByteArray} {n : Nat} {d : Int} {xs : List Int} (h : ImgAt s n d xs) (hm : 0 < m.size) : ¬ isImg (s ++ m) := fun ⟨n', d', xs', h'⟩ => by
  have e := img_prefix h' h (by rw [Go.Joins.data_append]; exact List.prefix_append _ _)
  have := congrArg ByteArray.size e
  rw [ByteArray.size_append] at this
  omega
theorem not_img_cut {s : ByteArray} {n : Nat} {d : Int} {xs : List Int} (h : ImgAt s n d xs) (k : Nat) (hk : k < s.size) : ¬ isImg (s.extract 0 k) := fun ⟨n', d', xs', h'⟩ => by
  have hl : (s.extract 0 k).data.toList = s.data.toList.take k := by simp
  have e := img_prefix h h' (by rw [hl]; exact List.take_prefix _ _)
  have := congrArg ByteArray.size e
  simp at this
  omega
theorem app_nil (s m : ByteArray) (hm : m.size = 0) : s ++ m = s := by
  apply ByteArray.ext
  apply Array.ext'
  rw [Go.Joins.data_append]
  have : m.data.toList = [] := List.eq_nil_of_length_eq_zero (by rw [len_toList]; exact hm)
  rw [this, List.append_nil]
theorem empty_iff (m : ByteArray) : m.toList.isEmpty = decide (m.size = 0) := by
  rw [ByteArray.toList_eq]
  have := len_toList m
  cases h : m.data.toList with
  | nil => rw [h] at this; simp at this; rw [decide_eq_true (by omega)]; rfl
  | cons a r => rw [h] at this; simp at this; rw [decide_eq_false (by omega)]; rfl
set_option maxHeartbeats 8000000 in
set_option maxRecDepth 100000 in
theorem icut_long (p : Option Addr) (n c : Nat) (d a : Int) (m : ByteArray) (w : World) (h : 2000 < n) : Calls Try.prog 6 #[.agg #[.slice p n c, .int .i64 d], .int .i64 a, .string m] w fun e w' => e = .returned (.bool true) ∧ Below w.heap.size w w' := by
  have g1 : decide ((2000 : Int) < (n : Int)) = true := decide_eq_true (by omega)
  obtain ⟨w1, hw1⟩ : ∃ w', w.alloc (.cells #[.slice p n c, .int .i64 d] 24) = w' := ⟨_, rfl⟩
  have hI : Box 24 w.heap.size [.slice p n c, .int .i64 d] w1 := by rw [← hw1]; exact Box.new 24 [.slice p n c, .int .i64 d] w
  have hD : Below w.heap.size w w1 := by rw [← hw1]; exact (Below.refl _ _).alloc (Nat.le_refl _) _
  have hB := hD
  clear hD
  go_enter Try.func6, Try.ntmps6
  go_wp2_with fail
  clear hw1
  refine (awake8_any w1).mono ?_
  rintro e w2 ⟨rfl, hD⟩
  replace hI := hI.on hD
  replace hB := hB.trans (hD.mono hB.size)
  clear hD
  have chI0 := hI.cell (j := 0) (v := .slice p n c) rfl
  have chI1 := hI.cell (j := 1) (v := .int .i64 d) rfl
  go_wp2_with fail
  clear chI0 chI1
  go_ret
  exact ⟨rfl, hB⟩
set_option maxHeartbeats 8000000 in
set_option maxRecDepth 100000 in
theorem icut_no (p : Option Addr) (n c : Nat) (d a : Int) (m : ByteArray) (w : World) (h : ¬ 2000 < n) (h2 : rightM n d = false) : Calls Try.prog 6 #[.agg #[.slice p n c, .int .i64 d], .int .i64 a, .string m] w fun e w' => e = .returned (.bool true) ∧ Below w.heap.size w w' := by
  have g1 : decide ((2000 : Int) < (n : Int)) = false := decide_eq_false (by omega)
  have H := Lib.hid h2
  clear h h2
  obtain ⟨w1, hw1⟩ : ∃ w', w.alloc (.cells #[.slice p n c, .int .i64 d] 24) = w' := ⟨_, rfl⟩
  have hI : Box 24 w.heap.size [.slice p n c, .int .i64 d] w1 := by rw [← hw1]; exact Box.new 24 [.slice p n c, .int .i64 d] w
  have hD : Below w.heap.size w w1 := by rw [← hw1]; exact (Below.refl _ _).alloc (Nat.le_refl _) _
  have hB := hD
  clear hD
  go_enter Try.func6, Try.ntmps6
  go_wp2_with fail
  clear hw1
  refine (awake8_any w1).mono ?_
  rintro e w2 ⟨rfl, hD⟩
  replace hI := hI.on hD
  replace hB := hB.trans (hD.mono hB.size)
  clear hD
  have chI0 := hI.cell (j := 0) (v := .slice p n c) rfl
  have chI1 := hI.cell (j := 1) (v := .int .i64 d) rfl
  go_wp2_with fail
  clear chI0 chI1
  refine (rright8_val p n c d false w2 H.out).mono ?_
  rintro e w3 ⟨rfl, hD⟩
  replace hI := hI.on hD
  replace hB := hB.trans (hD.mono hB.size)
  clear hD
  go_wp2_with fail
  go_ret
  exact ⟨rfl, hB⟩
set_option maxHeartbeats 8000000 in
set_option maxRecDepth 100000 in
theorem icut_more (p : Option Addr) (n c : Nat) (d a : Int) (m : ByteArray) (w : World) (h : ¬ 2000 < n) (h2 : rightM n d = true) (h3 : 100 < m.size) : Calls Try.prog 6 #[.agg #[.slice p n c, .int .i64 d], .int .i64 a, .string m] w fun e w' => e = .returned (.bool true) ∧ Below w.heap.size w w' := by
  have g1 : decide ((2000 : Int) < (n : Int)) = false := decide_eq_false (by omega)
  have g2 : decide ((100 : Int) < (m.size : Int)) = true := decide_eq_true (by omega)
  have H := Lib.hid h2
  clear h h2
  obtain ⟨w1, hw1⟩ : ∃ w', w.alloc (.cells #[.slice p n c, .int .i64 d] 24) = w' := ⟨_, rfl⟩
  have hI : Box 24 w.heap.size [.slice p n c, .int .i64 d] w1 := by rw [← hw1]; exact Box.new 24 [.slice p n c, .int .i64 d] w
  have hD : Below w.heap.size w w1 := by rw [← hw1]; exact (Below.refl _ _).alloc (Nat.le_refl _) _
  have hB := hD
  clear hD
  go_enter Try.func6, Try.ntmps6
  go_wp2_with fail
  clear hw1
  refine (awake8_any w1).mono ?_
  rintro e w2 ⟨rfl, hD⟩
  replace hI := hI.on hD
  replace hB := hB.trans (hD.mono hB.size)
  clear hD
  have chI0 := hI.cell (j := 0) (v := .slice p n c) rfl
  have chI1 := hI.cell (j := 1) (v := .int .i64 d) rfl
  go_wp2_with fail
  clear chI0 chI1
  refine (rright8_val p n c d true w2 H.out).mono ?_
  rintro e w3 ⟨rfl, hD⟩
  replace hI := hI.on hD
  replace hB := hB.trans (hD.mono hB.size)
  clear hD
  go_wp2_with fail
  go_ret
  exact ⟨rfl, hB⟩
set_option maxHeartbeats 8000000 in
set_option maxRecDepth 100000 in
theorem icut_elo (p : Option Addr) (n c : Nat) (d a : Int) (m : ByteArray) (xs : List Int) (w : World) (hn : n = xs.length) (hb : Bd xs) (hX : RdW w (.slice p n c) xs) (h : ¬ 2000 < n) (h2 : rightM n d = true) (_h3 : m.size ≤ 100) (he : m.size = 0) (ha : a < 0) : Calls Try.prog 6 #[.agg #[.slice p n c, .int .i64 d], .int .i64 a, .string m] w fun e w' => e = .returned (.bool true) ∧ Below w.heap.size w w' := by
  have g1 : decide ((2000 : Int) < (n : Int)) = false := decide_eq_false (by omega)
  have g2 : decide ((100 : Int) < (m.size : Int)) = false := decide_eq_false (by omega)
  obtain ⟨t, ht⟩ : ∃ t : ByteArray, t = ⟨(putL d xs).toArray⟩ := ⟨_, rfl⟩
  have hI : ImgAt t n d xs := by rw [ht, hn]; exact img_put hb (by rw [← hn]; exact h2)
  have hsz := hI.sz
  have hq : ¬ 9223372036854775807 < t.size + m.size := by omega
  have hU : ImgAt (t ++ m) n d xs := by rw [app_nil t m he]; exact hI
  have hml : m.toList.isEmpty = true := by rw [empty_iff]; exact decide_eq_true he
  have hus : (t ++ m).size ≤ 1000000 := by rw [ByteArray.size_append]; omega
  have g3 : decide (a < 0) = true := decide_eq_true ha
  have H := Lib.hid h2
  have HN := Lib.hid hn
  have HT := Lib.hid ht
  have HBD := Lib.hid hb
  have HU := Lib.hid hU
  clear h h2 hn ht hb hI hU hsz
  obtain ⟨w1, hw1⟩ : ∃ w', w.alloc (.cells #[.slice p n c, .int .i64 d] 24) = w' := ⟨_, rfl⟩
  have hI : Box 24 w.heap.size [.slice p n c, .int .i64 d] w1 := by rw [← hw1]; exact Box.new 24 [.slice p n c, .int .i64 d] w
  have hD : Below w.heap.size w w1 := by rw [← hw1]; exact (Below.refl _ _).alloc (Nat.le_refl _) _
  replace hX := hX.on hD
  have hB := hD
  clear hD
  go_enter Try.func6, Try.ntmps6
  go_wp2_with fail
  clear hw1
  refine (awake8_any w1).mono ?_
  rintro e w2 ⟨rfl, hD⟩
  replace hI := hI.on hD
  replace hX := hX.on hD
  replace hB := hB.trans (hD.mono hB.size)
  clear hD
  have chI0 := hI.cell (j := 0) (v := .slice p n c) rfl
  have chI1 := hI.cell (j := 1) (v := .int .i64 d) rfl
  go_wp2_with fail
  clear chI0 chI1
  refine (rright8_val p n c d true w2 H.out).mono ?_
  rintro e w3 ⟨rfl, hD⟩
  replace hI := hI.on hD
  replace hX := hX.on hD
  replace hB := hB.trans (hD.mono hB.size)
  clear hD
  have chI0 := hI.cell (j := 0) (v := .slice p n c) rfl
  have chI1 := hI.cell (j := 1) (v := .int .i64 d) rfl
  go_wp2_with fail
  clear chI0 chI1
  refine (cput8_val p n c d xs t w3 HN.out HBD.out hX H.out HT.out).mono ?_
  rintro e w4 ⟨rfl, hD⟩
  replace hI := hI.on hD
  replace hX := hX.on hD
  replace hB := hB.trans (hD.mono hB.size)
  clear hD
  go_wp2_with fail
  have hr := cread8_yes (t ++ m) n d xs w4 HU.out
  refine (hr).mono ?_
  rintro e w5 ⟨⟨q, c2, rfl, hY⟩, hD⟩
  replace hI := hI.on hD
  replace hX := hX.on hD
  replace hB := hB.trans (hD.mono hB.size)
  clear hD
  obtain ⟨w6, hw6⟩ : ∃ w', w5.alloc (.cells #[.slice q n c2, .int .i64 d] 24) = w' := ⟨_, rfl⟩
  have hK : Box 24 w5.heap.size [.slice q n c2, .int .i64 d] w6 := by rw [← hw6]; exact Box.new 24 [.slice q n c2, .int .i64 d] w5
  have hD : Below w5.heap.size w5 w6 := by rw [← hw6]; exact (Below.refl _ _).alloc (Nat.le_refl _) _
  replace hI := hI.on hD
  replace hX := hX.on hD
  replace hY := hY.on hD
  replace hB := hB.trans (hD.mono hB.size)
  clear hD
  go_wp2_with fail
  clear hw6
  go_ret
  exact ⟨rfl, hB⟩
set_option maxHeartbeats 8000000 in
set_option maxRecDepth 100000 in
theorem icut_ehi (p : Option Addr) (n c : Nat) (d a : Int) (m : ByteArray) (xs : List Int) (w : World) (hn : n = xs.length) (hb : Bd xs) (hX : RdW w (.slice p n c) xs) (h : ¬ 2000 < n) (h2 : rightM n d = true) (_h3 : m.size ≤ 100) (he : m.size = 0) (ha : 12 + 4 * (n : Int) ≤ a) : Calls Try.prog 6 #[.agg #[.slice p n c, .int .i64 d], .int .i64 a, .string m] w fun e w' => e = .returned (.bool true) ∧ Below w.heap.size w w' := by
  have g1 : decide ((2000 : Int) < (n : Int)) = false := decide_eq_false (by omega)
  have g2 : decide ((100 : Int) < (m.size : Int)) = false := decide_eq_false (by omega)
  obtain ⟨t, ht⟩ : ∃ t : ByteArray, t = ⟨(putL d xs).toArray⟩ := ⟨_, rfl⟩
  have hI : ImgAt t n d xs := by rw [ht, hn]; exact img_put hb (by rw [← hn]; exact h2)
  have hsz := hI.sz
  have hq : ¬ 9223372036854775807 < t.size + m.size := by omega
  have hU : ImgAt (t ++ m) n d xs := by rw [app_nil t m he]; exact hI
  have hml : m.toList.isEmpty = true := by rw [empty_iff]; exact decide_eq_true he
  have hus : (t ++ m).size ≤ 1000000 := by rw [ByteArray.size_append]; omega
  have g3 : decide (a < 0) = false := decide_eq_false (by omega)
  have g4 : decide ((t.size : Int) ≤ a) = true := decide_eq_true (by omega)
  have H := Lib.hid h2
  have HN := Lib.hid hn
  have HT := Lib.hid ht
  have HBD := Lib.hid hb
  have HU := Lib.hid hU
  clear h h2 hn ht hb hI hU hsz
  obtain ⟨w1, hw1⟩ : ∃ w', w.alloc (.cells #[.slice p n c, .int .i64 d] 24) = w' := ⟨_, rfl⟩
  have hI : Box 24 w.heap.size [.slice p n c, .int .i64 d] w1 := by rw [← hw1]; exact Box.new 24 [.slice p n c, .int .i64 d] w
  have hD : Below w.heap.size w w1 := by rw [← hw1]; exact (Below.refl _ _).alloc (Nat.le_refl _) _
  replace hX := hX.on hD
  have hB := hD
  clear hD
  go_enter Try.func6, Try.ntmps6
  go_wp2_with fail
  clear hw1
  refine (awake8_any w1).mono ?_
  rintro e w2 ⟨rfl, hD⟩
  replace hI := hI.on hD
  replace hX := hX.on hD
  replace hB := hB.trans (hD.mono hB.size)
  clear hD
  have chI0 := hI.cell (j := 0) (v := .slice p n c) rfl
  have chI1 := hI.cell (j := 1) (v := .int .i64 d) rfl
  go_wp2_with fail
  clear chI0 chI1
  refine (rright8_val p n c d true w2 H.out).mono ?_
  rintro e w3 ⟨rfl, hD⟩
  replace hI := hI.on hD
  replace hX := hX.on hD
  replace hB := hB.trans (hD.mono hB.size)
  clear hD
  have chI0 := hI.cell (j := 0) (v := .slice p n c) rfl
  have chI1 := hI.cell (j := 1) (v := .int .i64 d) rfl
  go_wp2_with fail
  clear chI0 chI1
  refine (cput8_val p n c d xs t w3 HN.out HBD.out hX H.out HT.out).mono ?_
  rintro e w4 ⟨rfl, hD⟩
  replace hI := hI.on hD
  replace hX := hX.on hD
  replace hB := hB.trans (hD.mono hB.size)
  clear hD
  go_wp2_with fail
  have hr := cread8_yes (t ++ m) n d xs w4 HU.out
  refine (hr).mono ?_
  rintro e w5 ⟨⟨q, c2, rfl, hY⟩, hD⟩
  replace hI := hI.on hD
  replace hX := hX.on hD
  replace hB := hB.trans (hD.mono hB.size)
  clear hD
  obtain ⟨w6, hw6⟩ : ∃ w', w5.alloc (.cells #[.slice q n c2, .int .i64 d] 24) = w' := ⟨_, rfl⟩
  have hK : Box 24 w5.heap.size [.slice q n c2, .int .i64 d] w6 := by rw [← hw6]; exact Box.new 24 [.slice q n c2, .int .i64 d] w5
  have hD : Below w5.heap.size w5 w6 := by rw [← hw6]; exact (Below.refl _ _).alloc (Nat.le_refl _) _
  replace hI := hI.on hD
  replace hX := hX.on hD
  replace hY := hY.on hD
  replace hB := hB.trans (hD.mono hB.size)
  clear hD
  go_wp2_with fail
  clear hw6
  go_ret
  exact ⟨rfl, hB⟩
set_option maxHeartbeats 8000000 in
set_option maxRecDepth 100000 in
theorem icut_ein (p : Option Addr) (n c : Nat) (d : Int) (m : ByteArray) (xs : List Int) (k : Nat) (w : World) (hn : n = xs.length) (hb : Bd xs) (hX : RdW w (.slice p n c) xs) (h : ¬ 2000 < n) (h2 : rightM n d = true) (_h3 : m.size ≤ 100) (he : m.size = 0) (ha : k < 12 + 4 * n) : Calls Try.prog 6 #[.agg #[.slice p n c, .int .i64 d], .int .i64 (k : Int), .string m] w fun e w' => e = .returned (.bool true) ∧ Below w.heap.size w w' := by
  have g1 : decide ((2000 : Int) < (n : Int)) = false := decide_eq_false (by omega)
  have g2 : decide ((100 : Int) < (m.size : Int)) = false := decide_eq_false (by omega)
  obtain ⟨t, ht⟩ : ∃ t : ByteArray, t = ⟨(putL d xs).toArray⟩ := ⟨_, rfl⟩
  have hI : ImgAt t n d xs := by rw [ht, hn]; exact img_put hb (by rw [← hn]; exact h2)
  have hsz := hI.sz
  have hq : ¬ 9223372036854775807 < t.size + m.size := by omega
  have hU : ImgAt (t ++ m) n d xs := by rw [app_nil t m he]; exact hI
  have hml : m.toList.isEmpty = true := by rw [empty_iff]; exact decide_eq_true he
  have hus : (t ++ m).size ≤ 1000000 := by rw [ByteArray.size_append]; omega
  have g3 : decide ((k : Int) < 0) = false := decide_eq_false (by omega)
  have g4 : decide ((t.size : Int) ≤ (k : Int)) = false := decide_eq_false (by omega)
  have g5 : decide (t.size ≤ k) = false := decide_eq_false (by omega)
  have hC : ¬ isImg (t.extract 0 k) := not_img_cut hI k (by omega)
  have hcs : (t.extract 0 k).size ≤ 1000000 := by simp; omega
  have HC := Lib.hid hC
  clear hC
  have k0 : (0 : Int) ≤ (k : Int) := by omega
  have k1 : (k : Int) ≤ (t.size : Int) := by omega
  have H := Lib.hid h2
  have HN := Lib.hid hn
  have HT := Lib.hid ht
  have HBD := Lib.hid hb
  have HU := Lib.hid hU
  clear h h2 hn ht hb hI hU hsz
  obtain ⟨w1, hw1⟩ : ∃ w', w.alloc (.cells #[.slice p n c, .int .i64 d] 24) = w' := ⟨_, rfl⟩
  have hI : Box 24 w.heap.size [.slice p n c, .int .i64 d] w1 := by rw [← hw1]; exact Box.new 24 [.slice p n c, .int .i64 d] w
  have hD : Below w.heap.size w w1 := by rw [← hw1]; exact (Below.refl _ _).alloc (Nat.le_refl _) _
  replace hX := hX.on hD
  have hB := hD
  clear hD
  go_enter Try.func6, Try.ntmps6
  go_wp2_with fail
  clear hw1
  refine (awake8_any w1).mono ?_
  rintro e w2 ⟨rfl, hD⟩
  replace hI := hI.on hD
  replace hX := hX.on hD
  replace hB := hB.trans (hD.mono hB.size)
  clear hD
  have chI0 := hI.cell (j := 0) (v := .slice p n c) rfl
  have chI1 := hI.cell (j := 1) (v := .int .i64 d) rfl
  go_wp2_with fail
  clear chI0 chI1
  refine (rright8_val p n c d true w2 H.out).mono ?_
  rintro e w3 ⟨rfl, hD⟩
  replace hI := hI.on hD
  replace hX := hX.on hD
  replace hB := hB.trans (hD.mono hB.size)
  clear hD
  have chI0 := hI.cell (j := 0) (v := .slice p n c) rfl
  have chI1 := hI.cell (j := 1) (v := .int .i64 d) rfl
  go_wp2_with fail
  clear chI0 chI1
  refine (cput8_val p n c d xs t w3 HN.out HBD.out hX H.out HT.out).mono ?_
  rintro e w4 ⟨rfl, hD⟩
  replace hI := hI.on hD
  replace hX := hX.on hD
  replace hB := hB.trans (hD.mono hB.size)
  clear hD
  go_wp2_with fail
  have hr := cread8_yes (t ++ m) n d xs w4 HU.out
  refine (hr).mono ?_
  rintro e w5 ⟨⟨q, c2, rfl, hY⟩, hD⟩
  replace hI := hI.on hD
  replace hX := hX.on hD
  replace hB := hB.trans (hD.mono hB.size)
  clear hD
  obtain ⟨w6, hw6⟩ : ∃ w', w5.alloc (.cells #[.slice q n c2, .int .i64 d] 24) = w' := ⟨_, rfl⟩
  have hK : Box 24 w5.heap.size [.slice q n c2, .int .i64 d] w6 := by rw [← hw6]; exact Box.new 24 [.slice q n c2, .int .i64 d] w5
  have hD : Below w5.heap.size w5 w6 := by rw [← hw6]; exact (Below.refl _ _).alloc (Nat.le_refl _) _
  replace hI := hI.on hD
  replace hX := hX.on hD
  replace hY := hY.on hD
  replace hB := hB.trans (hD.mono hB.size)
  clear hD
  go_wp2_with fail
  clear hw6
  have hr2 := cread8_no (t.extract 0 k) w6 hcs HC.out
  refine (hr2).mono ?_
  rintro e w7 ⟨rfl, hD⟩
  replace hI := hI.on hD
  replace hK := hK.on hD
  replace hX := hX.on hD
  replace hY := hY.on hD
  replace hB := hB.trans (hD.mono hB.size)
  clear hD
  obtain ⟨w8, hw8⟩ : ∃ w', w7.alloc (.cells #[.slice none 0 0, .int .i64 0] 24) = w' := ⟨_, rfl⟩
  have hK2 : Box 24 w7.heap.size [.slice none 0 0, .int .i64 0] w8 := by rw [← hw8]; exact Box.new 24 [.slice none 0 0, .int .i64 0] w7
  have hD : Below w7.heap.size w7 w8 := by rw [← hw8]; exact (Below.refl _ _).alloc (Nat.le_refl _) _
  have zhK20 := hK2.cell (j := 0) (v := .slice none 0 0) rfl
  have yhK20 := hK2.fz 0
  have zhK21 := hK2.cell (j := 1) (v := .int .i64 0) rfl
  have yhK21 := hK2.fz 1
  obtain ⟨w9, hw9⟩ : ∃ w', ((w8.setCell ⟨w7.heap.size, 0, none⟩ (.slice none 0 0)).setCell ⟨w7.heap.size, 1, none⟩ (.int .i64 0)) = w' := ⟨_, rfl⟩
  replace hK2 : Box 24 w7.heap.size [.slice none 0 0, .int .i64 0] w9 := by rw [← hw9]; exact ((hK2.set 0 (.slice none 0 0)).set 1 (.int .i64 0))
  replace hD : Below w7.heap.size w7 w9 := by rw [← hw9]; exact ((hD.setCell (p := ⟨w7.heap.size, 0, none⟩) (Nat.le_refl _) (.slice none 0 0)).setCell (p := ⟨w7.heap.size, 1, none⟩) (Nat.le_refl _) (.int .i64 0))
  replace hI := hI.on hD
  replace hK := hK.on hD
  replace hX := hX.on hD
  replace hY := hY.on hD
  replace hB := hB.trans (hD.mono hB.size)
  clear hD
  go_wp2_with fail
  clear hw8 zhK20 yhK20 zhK21 yhK21 hw9
  go_ret
  exact ⟨rfl, hB⟩
set_option maxHeartbeats 8000000 in
set_option maxRecDepth 100000 in
theorem icut_mlo (p : Option Addr) (n c : Nat) (d a : Int) (m : ByteArray) (xs : List Int) (w : World) (hn : n = xs.length) (hb : Bd xs) (hX : RdW w (.slice p n c) xs) (h : ¬ 2000 < n) (h2 : rightM n d = true) (h3 : m.size ≤ 100) (he : 0 < m.size) (ha : a < 0) : Calls Try.prog 6 #[.agg #[.slice p n c, .int .i64 d], .int .i64 a, .string m] w fun e w' => e = .returned (.bool true) ∧ Below w.heap.size w w' := by
  have g1 : decide ((2000 : Int) < (n : Int)) = false := decide_eq_false (by omega)
  have g2 : decide ((100 : Int) < (m.size : Int)) = false := decide_eq_false (by omega)
  obtain ⟨t, ht⟩ : ∃ t : ByteArray, t = ⟨(putL d xs).toArray⟩ := ⟨_, rfl⟩
  have hI : ImgAt t n d xs := by rw [ht, hn]; exact img_put hb (by rw [← hn]; exact h2)
  have hsz := hI.sz
  have hq : ¬ 9223372036854775807 < t.size + m.size := by omega
  have hU : ¬ isImg (t ++ m) := not_img_more hI he
  have hml : m.toList.isEmpty = false := by rw [empty_iff]; exact decide_eq_false (by omega)
  have hus : (t ++ m).size ≤ 1000000 := by rw [ByteArray.size_append]; omega
  have g3 : decide (a < 0) = true := decide_eq_true ha
  have H := Lib.hid h2
  have HN := Lib.hid hn
  have HT := Lib.hid ht
  have HBD := Lib.hid hb
  have HU := Lib.hid hU
  clear h h2 hn ht hb hI hU hsz
  obtain ⟨w1, hw1⟩ : ∃ w', w.alloc (.cells #[.slice p n c, .int .i64 d] 24) = w' := ⟨_, rfl⟩
  have hI : Box 24 w.heap.size [.slice p n c, .int .i64 d] w1 := by rw [← hw1]; exact Box.new 24 [.slice p n c, .int .i64 d] w
  have hD : Below w.heap.size w w1 := by rw [← hw1]; exact (Below.refl _ _).alloc (Nat.le_refl _) _
  replace hX := hX.on hD
  have hB := hD
  clear hD
  go_enter Try.func6, Try.ntmps6
  go_wp2_with fail
  clear hw1
  refine (awake8_any w1).mono ?_
  rintro e w2 ⟨rfl, hD⟩
  replace hI := hI.on hD
  replace hX := hX.on hD
  replace hB := hB.trans (hD.mono hB.size)
  clear hD
  have chI0 := hI.cell (j := 0) (v := .slice p n c) rfl
  have chI1 := hI.cell (j := 1) (v := .int .i64 d) rfl
  go_wp2_with fail
  clear chI0 chI1
  refine (rright8_val p n c d true w2 H.out).mono ?_
  rintro e w3 ⟨rfl, hD⟩
  replace hI := hI.on hD
  replace hX := hX.on hD
  replace hB := hB.trans (hD.mono hB.size)
  clear hD
  have chI0 := hI.cell (j := 0) (v := .slice p n c) rfl
  have chI1 := hI.cell (j := 1) (v := .int .i64 d) rfl
  go_wp2_with fail
  clear chI0 chI1
  refine (cput8_val p n c d xs t w3 HN.out HBD.out hX H.out HT.out).mono ?_
  rintro e w4 ⟨rfl, hD⟩
  replace hI := hI.on hD
  replace hX := hX.on hD
  replace hB := hB.trans (hD.mono hB.size)
  clear hD
  go_wp2_with fail
  have hr := cread8_no (t ++ m) w4 hus HU.out
  refine (hr).mono ?_
  rintro e w5 ⟨rfl, hD⟩
  replace hI := hI.on hD
  replace hX := hX.on hD
  replace hB := hB.trans (hD.mono hB.size)
  clear hD
  obtain ⟨w6, hw6⟩ : ∃ w', w5.alloc (.cells #[.slice none 0 0, .int .i64 0] 24) = w' := ⟨_, rfl⟩
  have hK : Box 24 w5.heap.size [.slice none 0 0, .int .i64 0] w6 := by rw [← hw6]; exact Box.new 24 [.slice none 0 0, .int .i64 0] w5
  have hD : Below w5.heap.size w5 w6 := by rw [← hw6]; exact (Below.refl _ _).alloc (Nat.le_refl _) _
  have zhK0 := hK.cell (j := 0) (v := .slice none 0 0) rfl
  have yhK0 := hK.fz 0
  have zhK1 := hK.cell (j := 1) (v := .int .i64 0) rfl
  have yhK1 := hK.fz 1
  obtain ⟨w7, hw7⟩ : ∃ w', ((w6.setCell ⟨w5.heap.size, 0, none⟩ (.slice none 0 0)).setCell ⟨w5.heap.size, 1, none⟩ (.int .i64 0)) = w' := ⟨_, rfl⟩
  replace hK : Box 24 w5.heap.size [.slice none 0 0, .int .i64 0] w7 := by rw [← hw7]; exact ((hK.set 0 (.slice none 0 0)).set 1 (.int .i64 0))
  replace hD : Below w5.heap.size w5 w7 := by rw [← hw7]; exact ((hD.setCell (p := ⟨w5.heap.size, 0, none⟩) (Nat.le_refl _) (.slice none 0 0)).setCell (p := ⟨w5.heap.size, 1, none⟩) (Nat.le_refl _) (.int .i64 0))
  replace hI := hI.on hD
  replace hX := hX.on hD
  replace hB := hB.trans (hD.mono hB.size)
  clear hD
  go_wp2_with fail
  clear hw6 zhK0 yhK0 zhK1 yhK1 hw7
  go_ret
  exact ⟨rfl, hB⟩
set_option maxHeartbeats 8000000 in
set_option maxRecDepth 100000 in
theorem icut_mhi (p : Option Addr) (n c : Nat) (d a : Int) (m : ByteArray) (xs : List Int) (w : World) (hn : n = xs.length) (hb : Bd xs) (hX : RdW w (.slice p n c) xs) (h : ¬ 2000 < n) (h2 : rightM n d = true) (h3 : m.size ≤ 100) (he : 0 < m.size) (ha : 12 + 4 * (n : Int) ≤ a) : Calls Try.prog 6 #[.agg #[.slice p n c, .int .i64 d], .int .i64 a, .string m] w fun e w' => e = .returned (.bool true) ∧ Below w.heap.size w w' := by
  have g1 : decide ((2000 : Int) < (n : Int)) = false := decide_eq_false (by omega)
  have g2 : decide ((100 : Int) < (m.size : Int)) = false := decide_eq_false (by omega)
  obtain ⟨t, ht⟩ : ∃ t : ByteArray, t = ⟨(putL d xs).toArray⟩ := ⟨_, rfl⟩
  have hI : ImgAt t n d xs := by rw [ht, hn]; exact img_put hb (by rw [← hn]; exact h2)
  have hsz := hI.sz
  have hq : ¬ 9223372036854775807 < t.size + m.size := by omega
  have hU : ¬ isImg (t ++ m) := not_img_more hI he
  have hml : m.toList.isEmpty = false := by rw [empty_iff]; exact decide_eq_false (by omega)
  have hus : (t ++ m).size ≤ 1000000 := by rw [ByteArray.size_append]; omega
  have g3 : decide (a < 0) = false := decide_eq_false (by omega)
  have g4 : decide ((t.size : Int) ≤ a) = true := decide_eq_true (by omega)
  have H := Lib.hid h2
  have HN := Lib.hid hn
  have HT := Lib.hid ht
  have HBD := Lib.hid hb
  have HU := Lib.hid hU
  clear h h2 hn ht hb hI hU hsz
  obtain ⟨w1, hw1⟩ : ∃ w', w.alloc (.cells #[.slice p n c, .int .i64 d] 24) = w' := ⟨_, rfl⟩
  have hI : Box 24 w.heap.size [.slice p n c, .int .i64 d] w1 := by rw [← hw1]; exact Box.new 24 [.slice p n c, .int .i64 d] w
  have hD : Below w.heap.size w w1 := by rw [← hw1]; exact (Below.refl _ _).alloc (Nat.le_refl _) _
  replace hX := hX.on hD
  have hB := hD
  clear hD
  go_enter Try.func6, Try.ntmps6
  go_wp2_with fail
  clear hw1
  refine (awake8_any w1).mono ?_
  rintro e w2 ⟨rfl, hD⟩
  replace hI := hI.on hD
  replace hX := hX.on hD
  replace hB := hB.trans (hD.mono hB.size)
  clear hD
  have chI0 := hI.cell (j := 0) (v := .slice p n c) rfl
  have chI1 := hI.cell (j := 1) (v := .int .i64 d) rfl
  go_wp2_with fail
  clear chI0 chI1
  refine (rright8_val p n c d true w2 H.out).mono ?_
  rintro e w3 ⟨rfl, hD⟩
  replace hI := hI.on hD
  replace hX := hX.on hD
  replace hB := hB.trans (hD.mono hB.size)
  clear hD
  have chI0 := hI.cell (j := 0) (v := .slice p n c) rfl
  have chI1 := hI.cell (j := 1) (v := .int .i64 d) rfl
  go_wp2_with fail
  clear chI0 chI1
  refine (cput8_val p n c d xs t w3 HN.out HBD.out hX H.out HT.out).mono ?_
  rintro e w4 ⟨rfl, hD⟩
  replace hI := hI.on hD
  replace hX := hX.on hD
  replace hB := hB.trans (hD.mono hB.size)
  clear hD
  go_wp2_with fail
  have hr := cread8_no (t ++ m) w4 hus HU.out
  refine (hr).mono ?_
  rintro e w5 ⟨rfl, hD⟩
  replace hI := hI.on hD
  replace hX := hX.on hD
  replace hB := hB.trans (hD.mono hB.size)
  clear hD
  obtain ⟨w6, hw6⟩ : ∃ w', w5.alloc (.cells #[.slice none 0 0, .int .i64 0] 24) = w' := ⟨_, rfl⟩
  have hK : Box 24 w5.heap.size [.slice none 0 0, .int .i64 0] w6 := by rw [← hw6]; exact Box.new 24 [.slice none 0 0, .int .i64 0] w5
  have hD : Below w5.heap.size w5 w6 := by rw [← hw6]; exact (Below.refl _ _).alloc (Nat.le_refl _) _
  have zhK0 := hK.cell (j := 0) (v := .slice none 0 0) rfl
  have yhK0 := hK.fz 0
  have zhK1 := hK.cell (j := 1) (v := .int .i64 0) rfl
  have yhK1 := hK.fz 1
  obtain ⟨w7, hw7⟩ : ∃ w', ((w6.setCell ⟨w5.heap.size, 0, none⟩ (.slice none 0 0)).setCell ⟨w5.heap.size, 1, none⟩ (.int .i64 0)) = w' := ⟨_, rfl⟩
  replace hK : Box 24 w5.heap.size [.slice none 0 0, .int .i64 0] w7 := by rw [← hw7]; exact ((hK.set 0 (.slice none 0 0)).set 1 (.int .i64 0))
  replace hD : Below w5.heap.size w5 w7 := by rw [← hw7]; exact ((hD.setCell (p := ⟨w5.heap.size, 0, none⟩) (Nat.le_refl _) (.slice none 0 0)).setCell (p := ⟨w5.heap.size, 1, none⟩) (Nat.le_refl _) (.int .i64 0))
  replace hI := hI.on hD
  replace hX := hX.on hD
  replace hB := hB.trans (hD.mono hB.size)
  clear hD
  go_wp2_with fail
  clear hw6 zhK0 yhK0 zhK1 yhK1 hw7
  go_ret
  exact ⟨rfl, hB⟩
set_option maxHeartbeats 8000000 in
set_option maxRecDepth 100000 in
theorem icut_min (p : Option Addr) (n c : Nat) (d : Int) (m : ByteArray) (xs : List Int) (k : Nat) (w : World) (hn : n = xs.length) (hb : Bd xs) (hX : RdW w (.slice p n c) xs) (h : ¬ 2000 < n) (h2 : rightM n d = true) (h3 : m.size ≤ 100) (he : 0 < m.size) (ha : k < 12 + 4 * n) : Calls Try.prog 6 #[.agg #[.slice p n c, .int .i64 d], .int .i64 (k : Int), .string m] w fun e w' => e = .returned (.bool true) ∧ Below w.heap.size w w' := by
  have g1 : decide ((2000 : Int) < (n : Int)) = false := decide_eq_false (by omega)
  have g2 : decide ((100 : Int) < (m.size : Int)) = false := decide_eq_false (by omega)
  obtain ⟨t, ht⟩ : ∃ t : ByteArray, t = ⟨(putL d xs).toArray⟩ := ⟨_, rfl⟩
  have hI : ImgAt t n d xs := by rw [ht, hn]; exact img_put hb (by rw [← hn]; exact h2)
  have hsz := hI.sz
  have hq : ¬ 9223372036854775807 < t.size + m.size := by omega
  have hU : ¬ isImg (t ++ m) := not_img_more hI he
  have hml : m.toList.isEmpty = false := by rw [empty_iff]; exact decide_eq_false (by omega)
  have hus : (t ++ m).size ≤ 1000000 := by rw [ByteArray.size_append]; omega
  have g3 : decide ((k : Int) < 0) = false := decide_eq_false (by omega)
  have g4 : decide ((t.size : Int) ≤ (k : Int)) = false := decide_eq_false (by omega)
  have g5 : decide (t.size ≤ k) = false := decide_eq_false (by omega)
  have hC : ¬ isImg (t.extract 0 k) := not_img_cut hI k (by omega)
  have hcs : (t.extract 0 k).size ≤ 1000000 := by simp; omega
  have HC := Lib.hid hC
  clear hC
  have k0 : (0 : Int) ≤ (k : Int) := by omega
  have k1 : (k : Int) ≤ (t.size : Int) := by omega
  have H := Lib.hid h2
  have HN := Lib.hid hn
  have HT := Lib.hid ht
  have HBD := Lib.hid hb
  have HU := Lib.hid hU
  clear h h2 hn ht hb hI hU hsz
  obtain ⟨w1, hw1⟩ : ∃ w', w.alloc (.cells #[.slice p n c, .int .i64 d] 24) = w' := ⟨_, rfl⟩
  have hI : Box 24 w.heap.size [.slice p n c, .int .i64 d] w1 := by rw [← hw1]; exact Box.new 24 [.slice p n c, .int .i64 d] w
  have hD : Below w.heap.size w w1 := by rw [← hw1]; exact (Below.refl _ _).alloc (Nat.le_refl _) _
  replace hX := hX.on hD
  have hB := hD
  clear hD
  go_enter Try.func6, Try.ntmps6
  go_wp2_with fail
  clear hw1
  refine (awake8_any w1).mono ?_
  rintro e w2 ⟨rfl, hD⟩
  replace hI := hI.on hD
  replace hX := hX.on hD
  replace hB := hB.trans (hD.mono hB.size)
  clear hD
  have chI0 := hI.cell (j := 0) (v := .slice p n c) rfl
  have chI1 := hI.cell (j := 1) (v := .int .i64 d) rfl
  go_wp2_with fail
  clear chI0 chI1
  refine (rright8_val p n c d true w2 H.out).mono ?_
  rintro e w3 ⟨rfl, hD⟩
  replace hI := hI.on hD
  replace hX := hX.on hD
  replace hB := hB.trans (hD.mono hB.size)
  clear hD
  have chI0 := hI.cell (j := 0) (v := .slice p n c) rfl
  have chI1 := hI.cell (j := 1) (v := .int .i64 d) rfl
  go_wp2_with fail
  clear chI0 chI1
  refine (cput8_val p n c d xs t w3 HN.out HBD.out hX H.out HT.out).mono ?_
  rintro e w4 ⟨rfl, hD⟩
  replace hI := hI.on hD
  replace hX := hX.on hD
  replace hB := hB.trans (hD.mono hB.size)
  clear hD
  go_wp2_with fail
  have hr := cread8_no (t ++ m) w4 hus HU.out
  refine (hr).mono ?_
  rintro e w5 ⟨rfl, hD⟩
  replace hI := hI.on hD
  replace hX := hX.on hD
  replace hB := hB.trans (hD.mono hB.size)
  clear hD
  obtain ⟨w6, hw6⟩ : ∃ w', w5.alloc (.cells #[.slice none 0 0, .int .i64 0] 24) = w' := ⟨_, rfl⟩
  have hK : Box 24 w5.heap.size [.slice none 0 0, .int .i64 0] w6 := by rw [← hw6]; exact Box.new 24 [.slice none 0 0, .int .i64 0] w5
  have hD : Below w5.heap.size w5 w6 := by rw [← hw6]; exact (Below.refl _ _).alloc (Nat.le_refl _) _
  have zhK0 := hK.cell (j := 0) (v := .slice none 0 0) rfl
  have yhK0 := hK.fz 0
  have zhK1 := hK.cell (j := 1) (v := .int .i64 0) rfl
  have yhK1 := hK.fz 1
  obtain ⟨w7, hw7⟩ : ∃ w', ((w6.setCell ⟨w5.heap.size, 0, none⟩ (.slice none 0 0)).setCell ⟨w5.heap.size, 1, none⟩ (.int .i64 0)) = w' := ⟨_, rfl⟩
  replace hK : Box 24 w5.heap.size [.slice none 0 0, .int .i64 0] w7 := by rw [← hw7]; exact ((hK.set 0 (.slice none 0 0)).set 1 (.int .i64 0))
  replace hD : Below w5.heap.size w5 w7 := by rw [← hw7]; exact ((hD.setCell (p := ⟨w5.heap.size, 0, none⟩) (Nat.le_refl _) (.slice none 0 0)).setCell (p := ⟨w5.heap.size, 1, none⟩) (Nat.le_refl _) (.int .i64 0))
  replace hI := hI.on hD
  replace hX := hX.on hD
  replace hB := hB.trans (hD.mono hB.size)
  clear hD
  go_wp2_with fail
  clear hw6 zhK0 yhK0 zhK1 yhK1 hw7
  have hr2 := cread8_no (t.extract 0 k) w7 hcs HC.out
  refine (hr2).mono ?_
  rintro e w8 ⟨rfl, hD⟩
  replace hI := hI.on hD
  replace hK := hK.on hD
  replace hX := hX.on hD
  replace hB := hB.trans (hD.mono hB.size)
  clear hD
  obtain ⟨w9, hw9⟩ : ∃ w', w8.alloc (.cells #[.slice none 0 0, .int .i64 0] 24) = w' := ⟨_, rfl⟩
  have hK2 : Box 24 w8.heap.size [.slice none 0 0, .int .i64 0] w9 := by rw [← hw9]; exact Box.new 24 [.slice none 0 0, .int .i64 0] w8
  have hD : Below w8.heap.size w8 w9 := by rw [← hw9]; exact (Below.refl _ _).alloc (Nat.le_refl _) _
  have zhK20 := hK2.cell (j := 0) (v := .slice none 0 0) rfl
  have yhK20 := hK2.fz 0
  have zhK21 := hK2.cell (j := 1) (v := .int .i64 0) rfl
  have yhK21 := hK2.fz 1
  obtain ⟨w10, hw10⟩ : ∃ w', ((w9.setCell ⟨w8.heap.size, 0, none⟩ (.slice none 0 0)).setCell ⟨w8.heap.size, 1, none⟩ (.int .i64 0)) = w' := ⟨_, rfl⟩
  replace hK2 : Box 24 w8.heap.size [.slice none 0 0, .int .i64 0] w10 := by rw [← hw10]; exact ((hK2.set 0 (.slice none 0 0)).set 1 (.int .i64 0))
  replace hD : Below w8.heap.size w8 w10 := by rw [← hw10]; exact ((hD.setCell (p := ⟨w8.heap.size, 0, none⟩) (Nat.le_refl _) (.slice none 0 0)).setCell (p := ⟨w8.heap.size, 1, none⟩) (Nat.le_refl _) (.int .i64 0))
  replace hI := hI.on hD
  replace hK := hK.on hD
  replace hX := hX.on hD
  replace hB := hB.trans (hD.mono hB.size)
  clear hD
  go_wp2_with fail
  clear hw9 zhK20 yhK20 zhK21 yhK21 hw10
  go_ret
  exact ⟨rfl, hB⟩
theorem icut_walk (p : Option Addr) (n c : Nat) (d a : Int) (m : ByteArray) (xs : List Int) (w : World) (hn : n = xs.length) (hb : Bd xs) (hX : RdW w (.slice p n c) xs) : Calls Try.prog 6 #[.agg #[.slice p n c, .int .i64 d], .int .i64 a, .string m] w fun e w' => e = .returned (.bool true) ∧ Below w.heap.size w w' := by
  by_cases h : 2000 < n
  · exact icut_long p n c d a m w h
  cases h2 : rightM n d
  · exact icut_no p n c d a m w h h2
  by_cases h3 : 100 < m.size
  · exact icut_more p n c d a m w h h2 h3
  have h3 : m.size ≤ 100 := by omega
  by_cases ha : a < 0
  · by_cases he : m.size = 0
    · exact icut_elo p n c d a m xs w hn hb hX h h2 h3 he ha
    · exact icut_mlo p n c d a m xs w hn hb hX h h2 h3 (by omega) ha
  by_cases ha2 : 12 + 4 * (n : Int) ≤ a
  · by_cases he : m.size = 0
    · exact icut_ehi p n c d a m xs w hn hb hX h h2 h3 he ha2
    · exact icut_mhi p n c d a m xs w hn hb hX h h2 h3 (by omega) ha2
  obtain ⟨k, rfl⟩ : ∃ k : Nat, a = (k : Int) := ⟨a.toNat, by omega⟩
  by_cases he : m.size = 0
  · exact icut_ein p n c d m xs k w hn hb hX h h2 h3 he (by omega)
  · exact icut_min p n c d m xs k w hn hb hX h h2 h3 (by omega) (by omega)
end Go.Proofs.Ytfaedjpfbaiojaa
