/-
  The contracts of Parse: a text is read as the word that its digits spell, or refused.
-/
import Derived.Test.YtefgaboalbaapaaDoorShB
import Derived.Test.YtefgaboalbaapaaDoorNum
import Derived.Test.YtefgaboalbaapaaDoorDec
import Derived.Lib.AtoiErrMem
namespace Go.Proofs.YtefgaboalbaapaaDoor
open Go.RowKit Go.Lib

theorem ret2_eq' {k l : IntKind} {a b c d : Int} (h : a = b) (h' : c = d) : Ending.returned (.tuple #[.int k a, .int l c]) = .returned (.tuple #[.int k b, .int l d]) := by rw [h, h']
set_option maxHeartbeats 400000 in
theorem parse_ok (s : ByteArray) (w : World) (hs : s.size ≤ 1000000) (h : numB s.data.toList = true) (hv : decV s.data.toList < 4294967296) :
    Calls Tryd.prog 21 #[.string s] w fun e w' => e = .returned (.tuple #[.int .u32 (decV s.data.toList), .int .i64 0]) ∧ Below w.heap.size w w' := by
  have hN := isNumber_any s w (by unfold maxLen; omega)
  rw [h] at hN
  obtain ⟨u, hu⟩ : ∃ u : Nat, decV s.data.toList = u := ⟨_, rfl⟩
  have hok := parseB_ok h hv
  rw [hu] at hok hv
  rw [hu]
  have hP : ∀ W, Calls Tryd.prog 37 #[.string s, .int .i64 10, .int .i64 32] W fun e w' => e = .returned (.tuple #[.int .u64 u, .nilIface]) ∧ Below W.heap.size W w' := fun W =>
    (Tryd.strconv_ParseUint_10_at32_ok s (by omega) u hok W).mono fun e w' ⟨h1, h2⟩ => ⟨h1, by
      rcases h2 with rfl | rfl
      · exact Below.refl _ _
      · exact bytesWorld_below _ _ _⟩
  have HN := Lib.hid hN
  have HP := Lib.hid hP
  clear hN h hok hu hP
  go_enter Tryd.func21, Tryd.ntmps21
  go_wp2_with fail
  refine (HN.out).mono ?_
  rintro e w1 ⟨rfl, rfl⟩
  go_wp2_with fail
  refine (HP.out _).mono ?_
  rintro e w1 ⟨rfl, hB⟩
  go_wp2_with fail
  go_ret2
  exact ⟨rfl, hB⟩
set_option maxHeartbeats 400000 in
theorem parse_range (s : ByteArray) (w : World) (hs : s.size ≤ 1000000) (h : numB s.data.toList = true) (hv : 4294967296 ≤ decV s.data.toList) (tp : TypeId) (p : Value)
    (hvar : w.cell? ⟨2, 0, none⟩ = some (.iface tp p)) :
    Calls Tryd.prog 21 #[.string s] w fun e w' => e = .returned (.tuple #[.int .u32 0, .int .i64 2]) ∧ Below w.heap.size w w' := by
  have hN := isNumber_any s w (by unfold maxLen; omega)
  rw [h] at hN
  have hP := Tryd.strconv_ParseUint_10_at32_range s (by omega) (parseB_range h hv) (.iface tp p) w hvar (Or.inr ⟨tp, p, rfl⟩)
  have HN := Lib.hid hN
  have HP := Lib.hid hP
  clear hN h hv hP hvar
  go_enter Tryd.func21, Tryd.ntmps21
  go_wp2_with fail
  refine (HN.out).mono ?_
  rintro e w1 ⟨rfl, rfl⟩
  go_wp2_with fail
  refine (HP.out).mono ?_
  rintro e w1 ⟨N, rfl, _, _, hB⟩
  go_wp2_with fail
  go_ret2
  exact ⟨rfl, hB⟩
/-- THE CONTRACT OF Parse, where the sentinel holds an interface's value. -/
theorem parse_any (s : ByteArray) (w : World) (hs : s.size ≤ 1000000) (tp : TypeId) (p : Value) (hvar : w.cell? ⟨2, 0, none⟩ = some (.iface tp p)) :
    Calls Tryd.prog 21 #[.string s] w fun e w' => e = .returned (.tuple #[.int .u32 (parseV s.data.toList), .int .i64 (parseE s.data.toList)]) ∧ Below w.heap.size w w' := by
  cases h : numB s.data.toList with
  | false =>
    have e1 : parseV s.data.toList = 0 := by simp [parseV, h]
    have e2 : parseE s.data.toList = 3 := by simp [parseE, h]
    rw [e1, e2]
    exact (parse_no s w (by unfold maxLen; omega) h).mono fun e w' ⟨h1, h2⟩ => ⟨h1, by rw [← h2]; exact Below.refl _ _⟩
  | true =>
    by_cases hv : decV s.data.toList < 4294967296
    · have e1 : parseV s.data.toList = decV s.data.toList := by simp [parseV, h, hv]
      have e2 : parseE s.data.toList = 0 := by simp [parseE, h]; omega
      rw [e1, e2]
      exact parse_ok s w hs h hv
    · have e1 : parseV s.data.toList = 0 := by simp [parseV, hv]
      have e2 : parseE s.data.toList = 2 := by simp [parseE, h]; omega
      rw [e1, e2]
      exact parse_range s w hs h (by omega) tp p hvar
end Go.Proofs.YtefgaboalbaapaaDoor
