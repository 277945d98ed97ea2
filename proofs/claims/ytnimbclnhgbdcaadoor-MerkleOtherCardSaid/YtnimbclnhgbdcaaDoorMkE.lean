/-
  The document's Prove; what a proof tells (up).
-/
import Derived.Test.YtnimbclnhgbdcaaDoorMkD
namespace Go.Proofs.YtnimbclnhgbdcaaDoor
open Go.RowKit

theorem way_all : ∀ (n : Nat) (l : List D4), l.length = n → n ≤ 1000000 → allD4 l → ∀ i, i < n → WayC l i := by
  intro n
  induction n using Nat.strongRecOn with
  | _ n ih =>
    intro l hn hle hok i hi
    match l, hn, hok with
    | [], hn, _ => exact absurd hi (by simp at hn; omega)
    | [a], hn, _ =>
      have : i = 0 := by simp at hn; omega
      subst this
      exact way_c1 a
    | a :: b :: r, hn, hok =>
      have h2 : 2 ≤ (a :: b :: r).length := by simp
      have hl := half_lt h2
      have hp := half_pos (a :: b :: r).length
      by_cases q : i < half (a :: b :: r).length
      · exact way_cL (a :: b :: r) i h2 (by omega) q
          (ih (half (a :: b :: r).length) (by omega) ((a :: b :: r).take (half (a :: b :: r).length)) (by rw [List.length_take]; omega) (by omega) (hok.take _) i q)
          (root_any _ (by rw [List.length_drop]; omega) (hok.drop _))
      · exact way_cR (a :: b :: r) i h2 (by omega) (by omega) q
          (ih ((a :: b :: r).length - half (a :: b :: r).length) (by omega) ((a :: b :: r).drop (half (a :: b :: r).length)) (by rw [List.length_drop]) (by omega) (hok.drop _) (i - half (a :: b :: r).length) (by omega))
          (root_any _ (by rw [List.length_take]; omega) (hok.take _))
/-- The document's Prove: no such place. -/
theorem rprove_no (p : Option Addr) (n cap : Nat) (m : Int) (w : World) (h : m < 0 ∨ (n : Int) ≤ m) : Calls Tryd.prog 13 #[.slice p n cap, .int .i64 m] w fun e w' => e = .returned (.tuple #[.slice none 0 0, .int .i64 1]) ∧ w = w' := by
  by_cases q : m < 0
  · have hd : decide (m < 0) = true := by simp; omega
    go_enter Tryd.func13, Tryd.ntmps13
    go_wp2
    go_ret2
    exact ⟨rfl, rfl⟩
  · have hd : decide (m < 0) = false := by simp; omega
    have hd2 : decide ((n : Int) ≤ m) = true := by simp; omega
    go_enter Tryd.func13, Tryd.ntmps13
    go_wp2
    go_ret2
    exact ⟨rfl, rfl⟩
theorem rprove_any (l : List D4) (i b o cap : Nat) (w : World) (hle : l.length ≤ 1000000) (hok : allD4 l) (hi : i < l.length) (hr : RdL w b o l) (hc : l.length ≤ cap) (hm : cap ≤ maxLen) :
    Calls Tryd.prog 13 #[.slice (some ⟨b, o, none⟩) l.length cap, .int .i64 (i : Int)] w fun e w' => ∃ v, e = .returned (.tuple #[v, .int .i64 0]) ∧ OwnsD w.heap.size v (wayD l i) w' ∧ Below w.heap.size w w' := by
  have H := way_all l.length l rfl hle hok i hi
  have hcm := hm
  unfold maxLen at hm
  have hd : decide ((i : Int) < 0) = false := by simp
  have hd2 : decide ((l.length : Int) ≤ (i : Int)) = false := by simp; omega
  go_enter Tryd.func13, Tryd.ntmps13
  go_wp2_with fail
  refine (H b o cap w hr hc hcm).mono ?_
  rintro e w1 ⟨v, rfl, hO, hB⟩
  go_wp2
  go_ret2
  exact ⟨_, rfl, hO, hB⟩
end Go.Proofs.YtnimbclnhgbdcaaDoor
