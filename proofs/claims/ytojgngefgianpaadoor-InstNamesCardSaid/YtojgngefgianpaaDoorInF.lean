/-
  The table of the code's operations: what its cells hold; find, fieldsOf, Name.
-/
import Derived.Test.YtojgngefgianpaaDoorInC
import Derived.Test.YtojgngefgianpaaDoorInD
import Derived.Deep.MidRow
namespace Go.Proofs.YtojgngefgianpaaDoor
open Go.RowKit

/-- How much each field of an operation may be at most. -/
def mostA (o : Int) : Int := if hasB (partsB o) 97 then 15 else 0
def mostB (o : Int) : Int := if hasB (partsB o) 98 then 15 else 0
def mostC (o : Int) : Int := if hasB (partsB o) 99 then 65535 else if hasB (partsB o) 114 then 15 else 0
theorem opGo_zero (s : ByteArray) : opGo s 28 0 = opOf s := by
  show (if (nameB 0).toList == s.toList then (0 : Int) else opGo s 27 1) = opGo s 27 1
  split
  · rename_i h
    have h1 : s.toList = [] := (eq_of_beq h).symm.trans (by rw [ByteArray.toList_eq]; rfl)
    have h2 : ∀ (n k : Nat), n + k = 28 → 1 ≤ k → opGo s n k = 0 := fun n => by
      induction n with
      | zero => intros; rfl
      | succ n ih =>
        intro k e h
        have hne : ((nameB (k : Int)).toList == s.toList) = false := by
          rw [h1]
          have : k ≤ 27 := by omega
          rcases op_cases (k : Int) (by omega) (by omega) with e | e | e | e | e | e | e | e | e | e | e | e | e | e | e | e | e | e | e | e | e | e | e | e | e | e | e <;> (rw [e, ByteArray.toList_eq]; rfl)
        rw [opGo, hne]
        exact ih (k + 1) (by omega) (by omega)
    exact (h2 27 1 rfl (Nat.le_refl _)).symm
  · rfl
/-- One operation's cells. -/
def opRow (o : Nat) : List Value := [.string (nameB o), .int .i64 (mostA o), .int .i64 (mostB o), .int .i64 (mostC o)]
/-- The cells of the code's table. -/
def opCells : List Value := (List.range 28).flatMap opRow
/-- The package variable holds the table. -/
def OpsOk (w : World) : Prop := ∃ t fr, w.heap[0]? = some (.cells opCells.toArray t fr)
theorem OpsOk.low {w : World} (h : OpsOk w) : 0 < w.heap.size := by
  obtain ⟨t, fr, h⟩ := h
  rcases Nat.lt_or_ge 0 w.heap.size with q | q
  · exact q
  · rw [Array.getElem?_eq_none q] at h; cases h
theorem OpsOk.on {w w' : World} (h : OpsOk w) (hB : Below w.heap.size w w') : OpsOk w' := by
  have hl := h.low
  obtain ⟨t, fr, h⟩ := h
  exact ⟨t, fr, by rw [hB.block _ hl]; exact h⟩

theorem most_no (o : Int) (h : o < 1 ∨ 27 < o) : mostA o = 0 ∧ mostB o = 0 ∧ mostC o = 0 := by
  unfold mostA mostB mostC
  rw [partsB_no o h]
  exact ⟨rfl, rfl, rfl⟩
theorem flat_at (f : Nat → List Value) (hf : ∀ k, (f k).length = 4) : ∀ (n k j : Nat), k < n → j < 4 → ((List.range n).flatMap f)[k * 4 + j]? = (f k)[j]?
  | 0, k, j, h, _ => by omega
  | n + 1, k, j, h, hj => by
    have hl : ∀ m, ((List.range m).flatMap f).length = m * 4 := fun m => by
      induction m with
      | zero => rfl
      | succ m ih => rw [List.range_succ, List.flatMap_append, List.length_append, ih]; simp [hf]; omega
    rw [List.range_succ, List.flatMap_append]
    by_cases hk : k < n
    · rw [List.getElem?_append_left (by rw [hl]; omega)]; exact flat_at f hf n k j hk hj
    · have : k = n := by omega
      subst this
      rw [List.getElem?_append_right (by rw [hl]; omega), hl]
      simp
theorem opCells_at (k j : Nat) (hk : k < 28) (hj : j < 4) : opCells[k * 4 + j]? = (opRow k)[j]? := flat_at opRow (fun _ => rfl) 28 k j hk hj
theorem opCells_len : opCells.length = 112 := by
  unfold opCells
  rw [List.length_flatMap]
  rfl
theorem OpsOk.range {w : World} (h : OpsOk w) : w.rangeAt 0 0 opCells := fun j v hv => by
  obtain ⟨t, fr, h⟩ := h
  rw [Nat.zero_add]
  unfold World.cell?
  simp [h, hv]
theorem OpsOk.cell {w : World} (h : OpsOk w) {k j : Nat} {v : Value} (hk : k < 28) (hv : (opRow k)[j]? = some v) : w.cell? ⟨0, k * 4 + j, none⟩ = some v := by
  have hj : j < 4 := by
    rcases Nat.lt_or_ge j 4 with q | q
    · exact q
    · rw [List.getElem?_eq_none (by exact q)] at hv; cases hv
  have := h.range (k * 4 + j) v (by rw [opCells_at k j hk hj]; exact hv)
  rwa [Nat.zero_add] at this
theorem opInfo : (Tryd.prog.info? 60).map (·.size) = some opCells.length := by rw [opCells_len]; kernel_rfl

theorem Box.put4 {t : TypeId} {b : Nat} {a0 a1 a2 a3 : Value} {w : World} (h : Box t b [a0, a1, a2, a3] w) (v0 v1 v2 v3 : Value) : Box t b [v0, v1, v2, v3] ((((w.setCell ⟨b, 0, none⟩ v0).setCell ⟨b, 1, none⟩ v1).setCell ⟨b, 2, none⟩ v2).setCell ⟨b, 3, none⟩ v3) :=
  (((h.set 0 v0).set 1 v1).set 2 v2).set 3 v3
theorem below_put4 {B b : Nat} {w w' : World} (h : Below B w w') (hb : B ≤ b) (v0 v1 v2 v3 : Value) : Below B w ((((w'.setCell ⟨b, 0, none⟩ v0).setCell ⟨b, 1, none⟩ v1).setCell ⟨b, 2, none⟩ v2).setCell ⟨b, 3, none⟩ v3) :=
  (((h.setCell (p := ⟨b, 0, none⟩) hb v0).setCell (p := ⟨b, 1, none⟩) hb v1).setCell (p := ⟨b, 2, none⟩) hb v2).setCell (p := ⟨b, 3, none⟩) hb v3
theorem Box.c4 {t : TypeId} {b : Nat} {a0 a1 a2 a3 : Value} {w : World} (h : Box t b [a0, a1, a2, a3] w) : w.cell? ⟨b, 0, none⟩ = some a0 ∧ w.cell? ⟨b, 1, none⟩ = some a1 ∧ w.cell? ⟨b, 2, none⟩ = some a2 ∧ w.cell? ⟨b, 3, none⟩ = some a3 := ⟨h.cell rfl, h.cell rfl, h.cell rfl, h.cell rfl⟩
set_option maxHeartbeats 8000000 in
set_option maxRecDepth 100000 in
theorem cfind_in (k : Nat) (w : World) (hk : k < 28) (hO : OpsOk w) : Calls Tryd.prog 24 #[.int .i64 (k : Int)] w fun e w' => e = .returned (.agg #[.string (nameB k), .int .i64 (mostA k), .int .i64 (mostB k), .int .i64 (mostC k)]) ∧ Below w.heap.size w w' := by
  have hg := hO.low
  obtain ⟨w1, hw1⟩ : ∃ w', w.alloc (.cells #[.string ⟨#[]⟩, .int .i64 0, .int .i64 0, .int .i64 0] 45) = w' := ⟨_, rfl⟩
  have hI : Box 45 w.heap.size [.string ⟨#[]⟩, .int .i64 0, .int .i64 0, .int .i64 0] w1 := by rw [← hw1]; exact Box.new _ _ w
  have hD : Below w.heap.size w w1 := by rw [← hw1]; exact (Below.refl _ _).alloc (Nat.le_refl _) _
  have hO1 := hO.on hD
  have c0 : w1.cell? ⟨0, k * 4, none⟩ = some (.string (nameB k)) := hO1.cell (k := k) (j := 0) hk rfl
  have c1 := hO1.cell (k := k) (j := 1) hk rfl
  have c2 := hO1.cell (k := k) (j := 2) hk rfl
  have c3 := hO1.cell (k := k) (j := 3) hk rfl
  obtain ⟨n, hn⟩ : ∃ n, n = nameB k := ⟨_, rfl⟩
  obtain ⟨a, ha⟩ : ∃ n, n = mostA k := ⟨_, rfl⟩
  obtain ⟨b, hb⟩ : ∃ n, n = mostB k := ⟨_, rfl⟩
  obtain ⟨c, hc⟩ : ∃ n, n = mostC k := ⟨_, rfl⟩
  rw [← hn] at c0 ⊢
  rw [← ha] at c1 ⊢
  rw [← hb] at c2 ⊢
  rw [← hc] at c3 ⊢
  have d0 := hI.cell (j := 0) (v := .string ⟨#[]⟩) rfl
  have d1 := hI.cell (j := 1) (v := .int .i64 0) rfl
  have d2 := hI.cell (j := 2) (v := .int .i64 0) rfl
  have d3 := hI.cell (j := 3) (v := .int .i64 0) rfl
  have f0 := hI.fz 0
  have f1 := hI.fz 1
  have f2 := hI.fz 2
  have f3 := hI.fz 3
  have hlt : decide ((k : Int) < 0) = false := decide_eq_false (by omega)
  have hle : decide ((28 : Int) ≤ (k : Int)) = false := decide_eq_false (by omega)
  clear hn ha hb hc hO hO1
  go_enter Tryd.func24, Tryd.ntmps24
  go_wp2_with fail
  have hI2 := hI.put4 (.string n) (.int .i64 a) (.int .i64 b) (.int .i64 c)
  have hD2 := below_put4 hD (Nat.le_refl _) (.string n) (.int .i64 a) (.int .i64 b) (.int .i64 c)
  obtain ⟨w2, hw2⟩ : ∃ w', ((((w1.setCell ⟨w.heap.size, 0, none⟩ (.string n)).setCell ⟨w.heap.size, 1, none⟩ (.int .i64 a)).setCell ⟨w.heap.size, 2, none⟩ (.int .i64 b)).setCell ⟨w.heap.size, 3, none⟩ (.int .i64 c)) = w' := ⟨_, rfl⟩
  rw [hw2] at hI2 hD2 ⊢
  obtain ⟨r0, r1, r2, r3⟩ := hI2.c4
  refine bodyPost_ret (v := .agg #[.string n, .int .i64 a, .int .i64 b, .int .i64 c]) (by simp [results, Tryd.results24, go_sem, r0, r1, r2, r3]) rfl ⟨rfl, hD2⟩
set_option maxHeartbeats 8000000 in
set_option maxRecDepth 100000 in
theorem cfind_out (o : Int) (w : World) (h : o < 0 ∨ 28 ≤ o) : Calls Tryd.prog 24 #[.int .i64 o] w fun e w' => e = .returned (.agg #[.string ⟨#[]⟩, .int .i64 0, .int .i64 0, .int .i64 0]) ∧ Below w.heap.size w w' := by
  obtain ⟨w1, hw1⟩ : ∃ w', w.alloc (.cells #[.string ⟨#[]⟩, .int .i64 0, .int .i64 0, .int .i64 0] 45) = w' := ⟨_, rfl⟩
  have hI : Box 45 w.heap.size [.string ⟨#[]⟩, .int .i64 0, .int .i64 0, .int .i64 0] w1 := by rw [← hw1]; exact Box.new _ _ w
  have hD : Below w.heap.size w w1 := by rw [← hw1]; exact (Below.refl _ _).alloc (Nat.le_refl _) _
  have d0 := hI.cell (j := 0) (v := .string ⟨#[]⟩) rfl
  have d1 := hI.cell (j := 1) (v := .int .i64 0) rfl
  have d2 := hI.cell (j := 2) (v := .int .i64 0) rfl
  have d3 := hI.cell (j := 3) (v := .int .i64 0) rfl
  have f0 := hI.fz 0
  have f1 := hI.fz 1
  have f2 := hI.fz 2
  have f3 := hI.fz 3
  rcases h with h | h
  · have hlt : decide (o < 0) = true := decide_eq_true h
    clear h
    go_enter Tryd.func24, Tryd.ntmps24
    go_wp2_with fail
    have hI2 := hI.put4 (.string ⟨#[]⟩) (.int .i64 0) (.int .i64 0) (.int .i64 0)
    have hD2 := below_put4 hD (Nat.le_refl _) (.string ⟨#[]⟩) (.int .i64 0) (.int .i64 0) (.int .i64 0)
    obtain ⟨wz, hwz⟩ : ∃ w', ((((w1.setCell ⟨w.heap.size, 0, none⟩ (.string ⟨#[]⟩)).setCell ⟨w.heap.size, 1, none⟩ (.int .i64 0)).setCell ⟨w.heap.size, 2, none⟩ (.int .i64 0)).setCell ⟨w.heap.size, 3, none⟩ (.int .i64 0)) = w' := ⟨_, rfl⟩
    rw [hwz] at hI2 hD2 ⊢
    obtain ⟨r0, r1, r2, r3⟩ := hI2.c4
    refine bodyPost_ret (v := .agg #[.string ⟨#[]⟩, .int .i64 0, .int .i64 0, .int .i64 0]) (by simp [results, Tryd.results24, go_sem, r0, r1, r2, r3]) rfl ⟨rfl, hD2⟩
  · have hlt : decide (o < 0) = false := decide_eq_false (by omega)
    have hle : decide (28 ≤ o) = true := decide_eq_true h
    clear h
    go_enter Tryd.func24, Tryd.ntmps24
    go_wp2_with fail
    have hI2 := hI.put4 (.string ⟨#[]⟩) (.int .i64 0) (.int .i64 0) (.int .i64 0)
    have hD2 := below_put4 hD (Nat.le_refl _) (.string ⟨#[]⟩) (.int .i64 0) (.int .i64 0) (.int .i64 0)
    obtain ⟨wz, hwz⟩ : ∃ w', ((((w1.setCell ⟨w.heap.size, 0, none⟩ (.string ⟨#[]⟩)).setCell ⟨w.heap.size, 1, none⟩ (.int .i64 0)).setCell ⟨w.heap.size, 2, none⟩ (.int .i64 0)).setCell ⟨w.heap.size, 3, none⟩ (.int .i64 0)) = w' := ⟨_, rfl⟩
    rw [hwz] at hI2 hD2 ⊢
    obtain ⟨r0, r1, r2, r3⟩ := hI2.c4
    refine bodyPost_ret (v := .agg #[.string ⟨#[]⟩, .int .i64 0, .int .i64 0, .int .i64 0]) (by simp [results, Tryd.results24, go_sem, r0, r1, r2, r3]) rfl ⟨rfl, hD2⟩
theorem cfind_any (o : Int) (w : World) (hO : OpsOk w) : Calls Tryd.prog 24 #[.int .i64 o] w fun e w' => e = .returned (.agg #[.string (nameB o), .int .i64 (mostA o), .int .i64 (mostB o), .int .i64 (mostC o)]) ∧ Below w.heap.size w w' := by
  by_cases h : o < 0 ∨ 28 ≤ o
  · obtain ⟨h1, h2, h3⟩ := most_no o (by omega)
    rw [nameB_no o (by omega), h1, h2, h3]
    exact cfind_out o w h
  · obtain ⟨k, rfl⟩ : ∃ k : Nat, o = (k : Int) := ⟨o.toNat, by omega⟩
    exact cfind_in k w (by omega) hO
theorem run_name (n : ByteArray) (a b c : Value) (w : World) : (Instr.field 45 (.agg #[.string n, a, b, c]) 0).run Tryd.prog w = .ok (.string n) w := by
  have h1 := Tryd.isAgg9
  simp [Instr.field, run_underlying Tryd.underlying45 w, part, asAgg, go_sem, h1]
theorem run_row (cs : List Value) (k : Nat) (a b c d : Value) (w : World) (hl : cs.length = 112) (hk : k < 28) (h0 : cs[k * 4]? = some a) (h1 : cs[k * 4 + 1]? = some b) (h2 : cs[k * 4 + 2]? = some c) (h3 : cs[k * 4 + 3]? = some d) :
    (Instr.index 60 (.agg cs.toArray) (.int .i64 (k : Int))).run Tryd.prog w = .ok (.agg #[a, b, c, d]) w := by
  have hb : (0 : Int) ≤ k ∧ (k : Int) < (28 : Nat) := by omega
  have e1 := Tryd.isAgg45
  have e2 := Tryd.sizeOf45
  have he : List.take 4 (List.drop (k * 4) cs) = [a, b, c, d] := by
    apply List.ext_getElem?
    intro j
    rcases j with _ | _ | _ | _ | j
    all_goals simp_all
    omega
  simp [Instr.index, run_underlying Tryd.underlying60 w, asIntOf, hb, part, go_sem, e1, e2, he, hk]
set_option maxHeartbeats 8000000 in
set_option maxRecDepth 100000 in
theorem cname_any (o : Int) (w : World) (hO : OpsOk w) : Calls Tryd.prog 18 #[.int .i64 o] w fun e w' => e = .returned (.string (nameB o)) ∧ Below w.heap.size w w' := by
  go_enter Tryd.func18, Tryd.ntmps18
  go_wp2_with fail
  refine (cfind_any o w hO).mono ?_
  rintro e w1 ⟨rfl, hD⟩
  have hrn := fun W => run_name (nameB o) (.int .i64 (mostA o)) (.int .i64 (mostB o)) (.int .i64 (mostC o)) W
  go_wp2_with fail
  go_ret
  exact ⟨rfl, hD⟩
set_option maxHeartbeats 8000000 in
set_option maxRecDepth 100000 in
theorem cfieldsOf_any (o a b c : Int) (w : World) : Calls Tryd.prog 25 #[.agg #[.int .i64 o, .int .i64 a, .int .i64 b, .int .i64 c]] w fun e w' => e = .returned (.agg #[.int .i64 a, .int .i64 b, .int .i64 c]) ∧ Below w.heap.size w w' := by
  obtain ⟨w1, hw1⟩ : ∃ w', w.alloc (.cells #[.int .i64 o, .int .i64 a, .int .i64 b, .int .i64 c] 23) = w' := ⟨_, rfl⟩
  have hI : Box 23 w.heap.size [.int .i64 o, .int .i64 a, .int .i64 b, .int .i64 c] w1 := by rw [← hw1]; exact Box.new _ _ w
  have hD : Below w.heap.size w w1 := by rw [← hw1]; exact (Below.refl _ _).alloc (Nat.le_refl _) _
  have hsz : w1.heap.size = w.heap.size + 1 := by rw [← hw1]; simp
  obtain ⟨w2, hw2⟩ : ∃ w', w1.alloc (.cells #[.int .i64 a, .int .i64 b, .int .i64 c] 43) = w' := ⟨_, rfl⟩
  have hI2 : Box 43 w1.heap.size [.int .i64 a, .int .i64 b, .int .i64 c] w2 := by rw [← hw2]; exact Box.new _ _ w1
  have hD2 : Below w.heap.size w w2 := by rw [← hw2]; exact hD.alloc (by omega) _
  rw [hsz] at hI2
  rw [← hw1] at hw2
  clear hw1
  go_enter Tryd.func25, Tryd.ntmps25
  go_wp2_with fail
  obtain ⟨r0, r1, r2⟩ := hI2.c3
  refine bodyPost_ret (v := .agg #[.int .i64 a, .int .i64 b, .int .i64 c]) (by simp [results, Tryd.results25, go_sem, r0, r1, r2]) rfl ⟨rfl, hD2⟩
set_option maxHeartbeats 8000000 in
set_option maxRecDepth 100000 in
theorem cop_any (s : ByteArray) (w : World) (hO : OpsOk w) : Calls Tryd.prog 19 #[.string s] w fun e w' => e = .returned (.int .i64 (opOf s)) ∧ Below w.heap.size w w' := by
  obtain ⟨cs, hcs⟩ : ∃ cs, cs = opCells := ⟨_, rfl⟩
  have hrg := hO.range
  have hin := opInfo
  have hat := opCells_at
  have hln := opCells_len
  rw [← hcs] at hrg hin hat hln
  have HAT := Lib.hid hat
  have HIN := Lib.hid hin
  have HRG := Lib.hid hrg
  have HLN := Lib.hid hln
  clear hrg hin hat hcs hln
  go_enter Tryd.func19, Tryd.ntmps19
  go_wp2_with fail
  refine wp_load_mid 60 _ rfl 0 0 rfl cs _ HRG.out Tryd.underlying60 rfl HIN.out ?_
  go_wp2_with fail
  go_loopw [6] (fun i wr => ∃ k : Nat, k ≤ 28 ∧ i = .int .i64 (k : Int) ∧ Hid (opOf s = opGo s (28 - k) k) ∧ Below w.heap.size w wr) (fun i _ => 28 - (intOf i).toNat)
  case atStart => exact ⟨0, by omega, rfl, (opGo_zero s).symm, Below.refl _ _⟩
  case round =>
    obtain ⟨k, hk, rfl, HK, hB⟩ := hrel
    by_cases hlt : k < 28
    · have hkd : decide ((k : Int) < 28) = true := decide_eq_true (by omega)
      have HN := Lib.hid (opGo_next s k (by omega))
      have hrow := fun W => run_row cs k (.string (nameB k)) (.int .i64 (mostA k)) (.int .i64 (mostB k)) (.int .i64 (mostC k)) W HLN.out hlt (HAT.out k 0 hlt (by omega)) (HAT.out k 1 hlt (by omega)) (HAT.out k 2 hlt (by omega)) (HAT.out k 3 hlt (by omega))
      cases hq : ((nameB (k : Int)).toList == s.toList)
      · have HQ := Lib.hid hq
        go_wp2_with fail
        go_roundw
        case rel => exact ⟨k + 1, by omega, by go_num, by show _ = _; rw [HK.out, HN.out, HQ.out]; rfl, hB.alloc hB.size _⟩
        case measure => simp [intOf]; omega
      · have HQ := Lib.hid hq
        go_wp2_with fail
        go_ret
        exact ⟨by rw [HK.out, HN.out, HQ.out]; rfl, hB.alloc hB.size _⟩
    · have hkd : decide ((k : Int) < 28) = false := decide_eq_false (by omega)
      have hk28 : k = 28 := by omega
      subst hk28
      have HZ : Hid (opOf s = 0) := by show _ = _; rw [HK.out]; rfl
      go_wp2
      go_ret
      exact ⟨by rw [HZ.out]; rfl, hB⟩
end Go.Proofs.YtojgngefgianpaaDoor
