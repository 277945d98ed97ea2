/-
  What the code's Read calls ahead of its loop; a Read that is refused there.
-/
import Derived.Test.YtfaedjpfbaiojaaImW8
namespace Go.Proofs.Ytfaedjpfbaiojaa
open Go.RowKit Go.Shelf

theorem cut_yes (s : ByteArray) (w : World) (h : 4 ≤ s.size) (hp : ((s.extract 0 4).toList == [83, 69, 69, 68]) = true) : Calls Try.prog 22 #[.string s, .string ⟨#[83, 69, 69, 68]⟩] w fun e w' => e = .returned (.tuple #[.string (s.extract 4 s.size), .bool true]) ∧ w = w' := by
  have hk1 : (0 : Int) ≤ 4 := by omega
  have hk2 : (4 : Int) ≤ (s.size : Int) := by omega
  have hkd : decide ((4 : Int) ≤ (s.size : Int)) = true := decide_eq_true hk2
  have HI : Hid (∀ w, Calls Try.prog 34 #[.string s, .string ⟨#[83, 69, 69, 68]⟩] w fun e w' => e = .returned (.bool true) ∧ w = w') := by
    intro w
    go_enter Try.func34, Try.ntmps34
    go_wp2
    go_ret
    exact ⟨rfl, rfl⟩
  have HJ : Hid (∀ w, Calls Try.prog 29 #[.string s, .string ⟨#[83, 69, 69, 68]⟩] w fun e w' => e = .returned (.tuple #[.string (s.extract 4 s.size), .bool true]) ∧ w = w') := by
    intro w
    go_enter Try.func29, Try.ntmps29
    go_wp2_with fail
    refine (HI.out w).mono ?_
    rintro e w1 ⟨rfl, rfl⟩
    go_wp2
    go_ret2
    exact ⟨rfl, rfl⟩
  go_enter Try.func22, Try.ntmps22
  go_wp2_with fail
  refine (HJ.out w).mono ?_
  rintro e w1 ⟨rfl, rfl⟩
  go_wp2
  go_ret2
  exact ⟨rfl, rfl⟩
theorem cut_no (s : ByteArray) (w : World) (h : s.size < 4 ∨ 4 ≤ s.size ∧ ((s.extract 0 4).toList == [83, 69, 69, 68]) = false) : Calls Try.prog 22 #[.string s, .string ⟨#[83, 69, 69, 68]⟩] w fun e w' => e = .returned (.tuple #[.string s, .bool false]) ∧ w = w' := by
  have HI : Hid (∀ w, Calls Try.prog 34 #[.string s, .string ⟨#[83, 69, 69, 68]⟩] w fun e w' => e = .returned (.bool false) ∧ w = w') := by
    intro w
    rcases h with h | ⟨h, hp⟩
    · have hkd : decide ((4 : Int) ≤ (s.size : Int)) = false := decide_eq_false (by omega)
      go_enter Try.func34, Try.ntmps34
      go_wp2
      go_ret
      exact ⟨rfl, rfl⟩
    · have hk1 : (0 : Int) ≤ 4 := by omega
      have hk2 : (4 : Int) ≤ (s.size : Int) := by omega
      have hkd : decide ((4 : Int) ≤ (s.size : Int)) = true := decide_eq_true hk2
      go_enter Try.func34, Try.ntmps34
      go_wp2
      go_ret
      exact ⟨rfl, rfl⟩
  clear h
  have HJ : Hid (∀ w, Calls Try.prog 29 #[.string s, .string ⟨#[83, 69, 69, 68]⟩] w fun e w' => e = .returned (.tuple #[.string s, .bool false]) ∧ w = w') := by
    intro w
    go_enter Try.func29, Try.ntmps29
    go_wp2_with fail
    refine (HI.out w).mono ?_
    rintro e w1 ⟨rfl, rfl⟩
    go_wp2
    go_ret2
    exact ⟨rfl, rfl⟩
  go_enter Try.func22, Try.ntmps22
  go_wp2_with fail
  refine (HJ.out w).mono ?_
  rintro e w1 ⟨rfl, rfl⟩
  go_wp2
  go_ret2
  exact ⟨rfl, rfl⟩
/-- May so many bytes stand behind the mark? -/
def mayM (n : Nat) : Bool := (n : Int) % 4 == 0 && (decide ((8 : Int) ≤ (n : Int)) && decide ((n : Int) ≤ 65544))
theorem may_any (n : Nat) (g : Bool) (w : World) (hg : mayM n = g) : Calls Try.prog 23 #[.int .i64 (n : Int)] w fun e w' => e = .returned (.bool g) ∧ w = w' := by
  rw [← hg]
  clear hg
  have hr : mayM n = ((n : Int) % 4 == 0 && (decide ((8 : Int) ≤ (n : Int)) && decide ((n : Int) ≤ 65544))) := rfl
  rw [hr]
  clear hr
  cases h1 : (n : Int) % 4 == 0 <;> cases h2 : decide ((8 : Int) ≤ (n : Int)) <;> cases h3 : decide ((n : Int) ≤ 65544)
  all_goals
    go_enter Try.func23, Try.ntmps23
    go_wp2
    go_ret
    exact ⟨rfl, rfl⟩
set_option maxRecDepth 100000 in
set_option maxHeartbeats 4000000 in
theorem cread_a (s t : ByteArray) (w : World) (HP : Hid (∀ w, Calls Try.prog 22 #[.string s, .string ⟨#[83, 69, 69, 68]⟩] w fun e w' => e = .returned (.tuple #[.string t, .bool false]) ∧ w = w')) :
    Calls Try.prog 17 #[.string s] w fun e w' => e = .returned (.tuple #[.agg #[.slice none 0 0, .int .i64 0], .int .i64 7]) ∧ Below w.heap.size w w' := by
  refine (callsIn_wide (n := 3)).1 ?_
  refine callsIn_of_wp_marks Try.func17 rfl trivial ?_ rfl
  simp only [Try.ntmps17, List.size_toArray, List.length_cons, List.length_nil, Nat.reduceAdd, Nat.reduceSub, Array.replicate_succ, Array.replicate_zero, List.push_toArray, List.append_toArray, List.nil_append, List.cons_append]
  refine wpIn_wide.2 ?_
  obtain ⟨w1, hw1⟩ : ∃ w', w.alloc (.cells #[.slice none 0 0, .int .i64 0] 24) = w' := ⟨_, rfl⟩
  have hR : Box 24 w.heap.size [.slice none 0 0, .int .i64 0] w1 := by rw [← hw1]; exact Box.new _ _ w
  have hB : Below w.heap.size w w1 := by rw [← hw1]; exact (Below.refl _ _).alloc (Nat.le_refl _) _
  have hlt := hR.lt
  obtain ⟨w2, hw2⟩ : ∃ w', w1.alloc (.cells #[.int .i64 0] 28) = w' := ⟨_, rfl⟩
  have hE : Box 28 w1.heap.size [.int .i64 0] w2 := by rw [← hw2]; exact Box.new _ _ w1
  have hD : Below w1.heap.size w1 w2 := by rw [← hw2]; exact (Below.refl _ _).alloc (Nat.le_refl _) _
  replace hR := hR.on hD
  replace hB := hB.trans (hD.mono hB.size)
  clear hD
  go_wp2_with fail
  clear hw1 hw2
  refine (HP.out w2).mono ?_
  rintro e w3 ⟨rfl, rfl⟩
  have c0 := hR.cell (j := 0) (v := .slice none 0 0) rfl
  have f0 := hR.fz 0
  have c1 := hR.cell (j := 1) (v := .int .i64 0) rfl
  have f1 := hR.fz 1
  obtain ⟨w4, hw4⟩ : ∃ w', (w2.setCell ⟨w.heap.size, 0, none⟩ (.slice none 0 0)).setCell ⟨w.heap.size, 1, none⟩ (.int .i64 0) = w' := ⟨_, rfl⟩
  have hR4 : Box 24 w.heap.size [.slice none 0 0, .int .i64 0] w4 := by rw [← hw4]; exact (hR.set 0 (.slice none 0 0)).set 1 (.int .i64 0)
  have hE4 : Box 28 w1.heap.size [.int .i64 0] w4 := by rw [← hw4]; exact (hE.far (a := ⟨w.heap.size, 0, none⟩) (Nat.ne_of_gt hlt) _).far (a := ⟨w.heap.size, 1, none⟩) (Nat.ne_of_gt hlt) _
  have hB4 : Below w.heap.size w w4 := by rw [← hw4]; exact (hB.setCell (p := ⟨w.heap.size, 0, none⟩) (Nat.le_refl _) _).setCell (p := ⟨w.heap.size, 1, none⟩) (Nat.le_refl _) _
  have c2 := hE4.cell (j := 0) (v := .int .i64 0) rfl
  have f2 := hE4.fz 0
  go_wp2_with fail
  have hR5 := hR4.far (a := ⟨w1.heap.size, 0, none⟩) (Nat.ne_of_lt hlt) (.int .i64 7)
  have hE5 := hE4.set 0 (.int .i64 7)
  have hB5 := hB4.setCell (p := ⟨w1.heap.size, 0, none⟩) (Nat.le_of_lt hlt) (.int .i64 7)
  have r0 := hR5.cell (j := 0) (v := .slice none 0 0) rfl
  have r1 := hR5.cell (j := 1) (v := .int .i64 0) rfl
  have r2 := hE5.cell (j := 0) (v := .int .i64 7) rfl
  exact ⟨.tuple #[.agg #[.slice none 0 0, .int .i64 0], .int .i64 7], by simp [results, Try.results17, go_sem, r0, r1, r2], rfl, hB5⟩
set_option maxRecDepth 100000 in
set_option maxHeartbeats 4000000 in
theorem cread_b (s t : ByteArray) (w : World) (HP : Hid (∀ w, Calls Try.prog 22 #[.string s, .string ⟨#[83, 69, 69, 68]⟩] w fun e w' => e = .returned (.tuple #[.string t, .bool true]) ∧ w = w')) (h : mayM t.size = false) :
    Calls Try.prog 17 #[.string s] w fun e w' => e = .returned (.tuple #[.agg #[.slice none 0 0, .int .i64 0], .int .i64 7]) ∧ Below w.heap.size w w' := by
  have HM : Hid (∀ w, Calls Try.prog 23 #[.int .i64 (t.size : Int)] w fun e w' => e = .returned (.bool false) ∧ w = w') := fun w => may_any t.size false w h
  clear h
  refine (callsIn_wide (n := 3)).1 ?_
  refine callsIn_of_wp_marks Try.func17 rfl trivial ?_ rfl
  simp only [Try.ntmps17, List.size_toArray, List.length_cons, List.length_nil, Nat.reduceAdd, Nat.reduceSub, Array.replicate_succ, Array.replicate_zero, List.push_toArray, List.append_toArray, List.nil_append, List.cons_append]
  refine wpIn_wide.2 ?_
  obtain ⟨w1, hw1⟩ : ∃ w', w.alloc (.cells #[.slice none 0 0, .int .i64 0] 24) = w' := ⟨_, rfl⟩
  have hR : Box 24 w.heap.size [.slice none 0 0, .int .i64 0] w1 := by rw [← hw1]; exact Box.new _ _ w
  have hB : Below w.heap.size w w1 := by rw [← hw1]; exact (Below.refl _ _).alloc (Nat.le_refl _) _
  have hlt := hR.lt
  obtain ⟨w2, hw2⟩ : ∃ w', w1.alloc (.cells #[.int .i64 0] 28) = w' := ⟨_, rfl⟩
  have hE : Box 28 w1.heap.size [.int .i64 0] w2 := by rw [← hw2]; exact Box.new _ _ w1
  have hD : Below w1.heap.size w1 w2 := by rw [← hw2]; exact (Below.refl _ _).alloc (Nat.le_refl _) _
  replace hR := hR.on hD
  replace hB := hB.trans (hD.mono hB.size)
  clear hD
  go_wp2_with fail
  clear hw1 hw2
  refine (HP.out w2).mono ?_
  rintro e w3 ⟨rfl, rfl⟩
  go_wp2_with fail
  refine (HM.out w2).mono ?_
  rintro e w3 ⟨rfl, rfl⟩
  have c0 := hR.cell (j := 0) (v := .slice none 0 0) rfl
  have f0 := hR.fz 0
  have c1 := hR.cell (j := 1) (v := .int .i64 0) rfl
  have f1 := hR.fz 1
  obtain ⟨w4, hw4⟩ : ∃ w', (w2.setCell ⟨w.heap.size, 0, none⟩ (.slice none 0 0)).setCell ⟨w.heap.size, 1, none⟩ (.int .i64 0) = w' := ⟨_, rfl⟩
  have hR4 : Box 24 w.heap.size [.slice none 0 0, .int .i64 0] w4 := by rw [← hw4]; exact (hR.set 0 (.slice none 0 0)).set 1 (.int .i64 0)
  have hE4 : Box 28 w1.heap.size [.int .i64 0] w4 := by rw [← hw4]; exact (hE.far (a := ⟨w.heap.size, 0, none⟩) (Nat.ne_of_gt hlt) _).far (a := ⟨w.heap.size, 1, none⟩) (Nat.ne_of_gt hlt) _
  have hB4 : Below w.heap.size w w4 := by rw [← hw4]; exact (hB.setCell (p := ⟨w.heap.size, 0, none⟩) (Nat.le_refl _) _).setCell (p := ⟨w.heap.size, 1, none⟩) (Nat.le_refl _) _
  have c2 := hE4.cell (j := 0) (v := .int .i64 0) rfl
  have f2 := hE4.fz 0
  go_wp2_with fail
  have hR5 := hR4.far (a := ⟨w1.heap.size, 0, none⟩) (Nat.ne_of_lt hlt) (.int .i64 7)
  have hE5 := hE4.set 0 (.int .i64 7)
  have hB5 := hB4.setCell (p := ⟨w1.heap.size, 0, none⟩) (Nat.le_of_lt hlt) (.int .i64 7)
  have r0 := hR5.cell (j := 0) (v := .slice none 0 0) rfl
  have r1 := hR5.cell (j := 1) (v := .int .i64 0) rfl
  have r2 := hE5.cell (j := 0) (v := .int .i64 7) rfl
  exact ⟨.tuple #[.agg #[.slice none 0 0, .int .i64 0], .int .i64 7], by simp [results, Try.results17, go_sem, r0, r1, r2], rfl, hB5⟩
end Go.Proofs.Ytfaedjpfbaiojaa
