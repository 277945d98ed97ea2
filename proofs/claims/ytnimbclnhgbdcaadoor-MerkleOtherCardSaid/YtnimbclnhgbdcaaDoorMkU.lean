/-
  The code's Prove and ProveOn.
-/
import Derived.Test.YtnimbclnhgbdcaaDoorMkT
namespace Go.Proofs.YtnimbclnhgbdcaaDoor
open Go.RowKit Go.Lib

theorem pin_all : ∀ (n : Nat) (l : List D4), l.length = n → n ≤ 1000000 → allD4 l → ∀ i, i < n → PInC l i := by
  intro n
  induction n using Nat.strongRecOn with
  | _ n ih =>
    intro l hn hle hok i hi
    match l, hn, hok with
    | [], hn, _ => exact absurd hi (by simp at hn; omega)
    | [a], hn, _ =>
      have : i = 0 := by simp at hn; omega
      subst this
      exact pin_c1 a
    | a :: b :: r, hn, hok =>
      have h2 : 2 ≤ (a :: b :: r).length := by simp
      have hl := half_lt h2
      have hp := half_pos (a :: b :: r).length
      by_cases q : i < half (a :: b :: r).length
      · exact pin_cL (a :: b :: r) i h2 (by omega) hok (by omega) q
          (ih (half (a :: b :: r).length) (by omega) ((a :: b :: r).take (half (a :: b :: r).length)) (by rw [List.length_take]; omega) (by omega) (hok.take _) i q)
      · exact pin_cR (a :: b :: r) i h2 (by omega) hok (by omega) q
          (ih ((a :: b :: r).length - half (a :: b :: r).length) (by omega) ((a :: b :: r).drop (half (a :: b :: r).length)) (by rw [List.length_drop]) (by omega) (hok.drop _) (i - half (a :: b :: r).length) (by omega))
theorem pon_all : ∀ (n : Nat) (l : List D4), l.length = n → n ≤ 1000000 → allD4 l → ∀ m bw, 1 ≤ m → m ≤ n → POnC l m bw := by
  intro n
  induction n using Nat.strongRecOn with
  | _ n ih =>
    intro l hn hle hok m bw h1 hm
    by_cases q : m = l.length
    · subst q
      cases bw
      · exact pon_cCut l (by omega) hok
      · exact pon_cWhole l
    · have h2 : 2 ≤ l.length := by omega
      have hl := half_lt h2
      have hp := half_pos l.length
      by_cases k : m ≤ half l.length
      · exact pon_cL l m bw h2 (by omega) hok h1 (by omega) q k
          (ih (half l.length) (by omega) (l.take (half l.length)) (by rw [List.length_take]; omega) (by omega) (hok.take _) m bw h1 k)
      · exact pon_cR l m bw h2 (by omega) hok h1 (by omega) q k
          (ih (l.length - half l.length) (by omega) (l.drop (half l.length)) (by rw [List.length_drop]) (by omega) (hok.drop _) (m - half l.length) false (by omega) (by omega))
/-- The code's Prove: no such place. -/
theorem cprove_no (p : Option Addr) (n cap : Nat) (m : Int) (w : World) (h : m < 0 ∨ (n : Int) ≤ m) : Calls Tryd.prog 12 #[.slice p n cap, .int .i64 m] w fun e w' => e = .returned (.tuple #[.slice none 0 0, .int .i64 1]) ∧ w = w' := by
  by_cases q : m < 0
  · have hd : decide (m < 0) = true := by simp; omega
    go_enter Tryd.func12, Tryd.ntmps12
    go_wp2
    go_ret2
    exact ⟨rfl, rfl⟩
  · have hd : decide (m < 0) = false := by simp; omega
    have hd2 : decide ((n : Int) ≤ m) = true := by simp; omega
    go_enter Tryd.func12, Tryd.ntmps12
    go_wp2
    go_ret2
    exact ⟨rfl, rfl⟩
theorem cprove_any (l : List D4) (i b o cap : Nat) (w : World) (hle : l.length ≤ 1000000) (hok : allD4 l) (hi : i < l.length) (hr : RdL w b o l) (hc : l.length ≤ cap) (hm : cap ≤ maxLen) (hT : TurnsOk w) :
    Calls Tryd.prog 12 #[.slice (some ⟨b, o, none⟩) l.length cap, .int .i64 (i : Int)] w fun e w' => ∃ v, e = .returned (.tuple #[v, .int .i64 0]) ∧ OwnsD w.heap.size v (wayD l i) w' ∧ Below w.heap.size w w' := by
  have H := pin_all l.length l rfl hle hok i hi
  have hcm := hm
  unfold maxLen at hm
  have hd : decide ((i : Int) < 0) = false := by simp
  have hd2 : decide ((l.length : Int) ≤ (i : Int)) = false := by simp; omega
  go_enter Tryd.func12, Tryd.ntmps12
  go_wp2_with fail
  refine (H b o cap w hr hc hcm hT).mono ?_
  rintro e w1 ⟨v, rfl, hO, hB⟩
  go_wp2
  go_ret2
  exact ⟨_, rfl, hO, hB⟩
/-- The code's ProveOn: no such length. -/
theorem cproveOn_no (p : Option Addr) (n cap : Nat) (m : Int) (w : World) (h : m < 1 ∨ (n : Int) < m) : Calls Tryd.prog 18 #[.slice p n cap, .int .i64 m] w fun e w' => e = .returned (.tuple #[.slice none 0 0, .int .i64 1]) ∧ w = w' := by
  by_cases q : m < 1
  · have hd : decide (m < 1) = true := by simp; omega
    go_enter Tryd.func18, Tryd.ntmps18
    go_wp2
    go_ret2
    exact ⟨rfl, rfl⟩
  · have hd : decide (m < 1) = false := by simp; omega
    have hd2 : decide ((n : Int) < m) = true := by simp; omega
    go_enter Tryd.func18, Tryd.ntmps18
    go_wp2
    go_ret2
    exact ⟨rfl, rfl⟩
theorem cproveOn_any (l : List D4) (m b o cap : Nat) (w : World) (hle : l.length ≤ 1000000) (hok : allD4 l) (h1 : 1 ≤ m) (hml : m ≤ l.length) (hr : RdL w b o l) (hc : l.length ≤ cap) (hm : cap ≤ maxLen) (hT : TurnsOk w) :
    Calls Tryd.prog 18 #[.slice (some ⟨b, o, none⟩) l.length cap, .int .i64 (m : Int)] w fun e w' => ∃ v, e = .returned (.tuple #[v, .int .i64 0]) ∧ OwnsD w.heap.size v (goesD l m true) w' ∧ Below w.heap.size w w' := by
  have H := pon_all l.length l rfl hle hok m true h1 hml
  have hcm := hm
  unfold maxLen at hm
  have hd : decide ((m : Int) < 1) = false := by simp; omega
  have hd2 : decide ((l.length : Int) < (m : Int)) = false := by simp; omega
  go_enter Tryd.func18, Tryd.ntmps18
  go_wp2_with fail
  refine (H b o cap w hr hc hcm hT).mono ?_
  rintro e w1 ⟨v, rfl, hO, hB⟩
  go_wp2
  go_ret2
  exact ⟨_, rfl, hO, hB⟩
end Go.Proofs.YtnimbclnhgbdcaaDoor
