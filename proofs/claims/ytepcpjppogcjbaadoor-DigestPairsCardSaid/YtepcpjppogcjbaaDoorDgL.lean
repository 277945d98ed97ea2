/-
  The walks of the laws DigestMixes, DigestBack, DigestPairs.
-/
import Derived.Test.YtepcpjppogcjbaaDoorDgF
namespace Go.Proofs.YtepcpjppogcjbaaDoor
open Go.RowKit

set_option maxHeartbeats 4000000 in
theorem mixes_any (s : S8) (w : World) (hs : s.ok) (hL : DgOk w) : Calls Tryd.prog 3 #[.agg #[.int .u32 s.x0, .int .u32 s.x1, .int .u32 s.x2, .int .u32 s.x3, .int .u32 s.x4, .int .u32 s.x5, .int .u32 s.x6, .int .u32 s.x7]] w fun e w' => e = .returned (.bool true) ∧ Below w.heap.size w w' := by
  obtain ⟨y, hy⟩ : ∃ y, mixN 8 s = y := ⟨_, rfl⟩
  obtain ⟨z, hz⟩ : ∃ z, unmN 8 s = z := ⟨_, rfl⟩
  have HY := Lib.hid hy
  have HZ := Lib.hid hz
  clear hy hz
  have hE1 := eqS_yes y
  have hE2 := eqS_yes z
  obtain ⟨w0, hw0⟩ : ∃ w0, w.alloc (.cells #[.int .u32 s.x0, .int .u32 s.x1, .int .u32 s.x2, .int .u32 s.x3, .int .u32 s.x4, .int .u32 s.x5, .int .u32 s.x6, .int .u32 s.x7] 23) = w0 := ⟨_, rfl⟩
  have hA0 : Arr .u32 23 w.heap.size s.toL w0.drew := by rw [← hw0]; exact heap_alloc_new w _
  have hB : Below w.heap.size w w0.drew := by rw [← hw0]; exact ((Below.refl _ _).alloc (Nat.le_refl _) _).drew
  have HL := Lib.hid (hL.below hB)
  have HS0 := Lib.hid (hA0.c8)
  clear hA0 hL
  go_enter Tryd.func3, Tryd.ntmps3
  go_wp2_with fail
  clear hw0
  go_region_held3 (fun w' => w'.cell? ⟨w.heap.size, 0, none⟩ = some (.int .u32 s.x0) ∧ w'.cell? ⟨w.heap.size, 1, none⟩ = some (.int .u32 s.x1) ∧ w'.cell? ⟨w.heap.size, 2, none⟩ = some (.int .u32 s.x2) ∧ w'.cell? ⟨w.heap.size, 3, none⟩ = some (.int .u32 s.x3) ∧ w'.cell? ⟨w.heap.size, 4, none⟩ = some (.int .u32 s.x4) ∧ w'.cell? ⟨w.heap.size, 5, none⟩ = some (.int .u32 s.x5) ∧ w'.cell? ⟨w.heap.size, 6, none⟩ = some (.int .u32 s.x6) ∧ w'.cell? ⟨w.heap.size, 7, none⟩ = some (.int .u32 s.x7))
    (first | ((with_reducible refine keepS (s := s) hA ?_); assumption) | (with_reducible exact HS0.out))
    (first
      | (go_at_call 11; (with_reducible refine (awakeD_any _ HL.out).mono ?_); rintro e w' ⟨rfl, hA⟩; have HL := Lib.hid (HL.out.below hA); have hB := hB.trans (hA.mono hB.size))
      | (go_at_call 12; (with_reducible refine (mixC s y _ hs HL.out HY.out).mono ?_); rintro e w' ⟨rfl, hA⟩; have HL := Lib.hid (HL.out.below hA); have hB := hB.trans (hA.mono hB.size))
      | (go_at_call 13; (with_reducible refine (mixR s y _ hs HY.out).mono ?_); rintro e w' ⟨rfl, hA⟩; have HL := Lib.hid (HL.out.below hA); have hB := hB.trans (hA.mono hB.size))
      | (go_at_call 14; (with_reducible refine (unmC s z _ hs HL.out HZ.out).mono ?_); rintro e w' ⟨rfl, hA⟩; have HL := Lib.hid (HL.out.below hA); have hB := hB.trans (hA.mono hB.size))
      | (go_at_call 15; (with_reducible refine (unmR s z _ hs HZ.out).mono ?_); rintro e w' ⟨rfl, hA⟩; have HL := Lib.hid (HL.out.below hA); have hB := hB.trans (hA.mono hB.size)))
  all_goals (go_wp2_with fail; go_ret; exact ⟨rfl, hB⟩)

set_option maxHeartbeats 4000000 in
theorem back_same (s : S8) (w : World) (hs : s.ok) (hL : DgOk w) : Calls Tryd.prog 4 #[.agg #[.int .u32 s.x0, .int .u32 s.x1, .int .u32 s.x2, .int .u32 s.x3, .int .u32 s.x4, .int .u32 s.x5, .int .u32 s.x6, .int .u32 s.x7], .agg #[.int .u32 s.x0, .int .u32 s.x1, .int .u32 s.x2, .int .u32 s.x3, .int .u32 s.x4, .int .u32 s.x5, .int .u32 s.x6, .int .u32 s.x7]] w fun e w' => e = .returned (.bool true) ∧ Below w.heap.size w w' := by
  obtain ⟨y, hy⟩ : ∃ y, mixN 8 s = y := ⟨_, rfl⟩
  obtain ⟨u, hu⟩ : ∃ u, unmN 8 s = u := ⟨_, rfl⟩
  have hE2 := eqS_yes y
  have hyo : y.ok := by rw [← hy]; exact mixN_ok 8 hs
  have huo : u.ok := by rw [← hu]; exact unmN_ok 8 hs
  have HYB : Hid (unmN 8 y = s) := by show _ = _; rw [← hy]; exact unm_mix 8 hs
  have HUB : Hid (mixN 8 u = s) := by show _ = _; rw [← hu]; exact mix_unm 8 hs
  have HY := Lib.hid hy
  have HU := Lib.hid hu
  clear hy hu
  have hE1 := eqS_yes s
  obtain ⟨w1, hw1⟩ : ∃ w1, w.alloc (.cells #[.int .u32 s.x0, .int .u32 s.x1, .int .u32 s.x2, .int .u32 s.x3, .int .u32 s.x4, .int .u32 s.x5, .int .u32 s.x6, .int .u32 s.x7] 23) = w1 := ⟨_, rfl⟩
  have a1 : w1.heap.size = w.heap.size + 1 := by rw [← hw1]; simp
  have hX1 : Arr .u32 23 w.heap.size s.toL w1 := by rw [← hw1]; exact heap_alloc_new w _
  have hB1 : Below w.heap.size w w1 := by rw [← hw1]; exact (Below.refl _ _).alloc (Nat.le_refl _) _
  obtain ⟨w0, hw0⟩ : ∃ w0, (w.alloc (.cells #[.int .u32 s.x0, .int .u32 s.x1, .int .u32 s.x2, .int .u32 s.x3, .int .u32 s.x4, .int .u32 s.x5, .int .u32 s.x6, .int .u32 s.x7] 23)).alloc (.cells #[.int .u32 s.x0, .int .u32 s.x1, .int .u32 s.x2, .int .u32 s.x3, .int .u32 s.x4, .int .u32 s.x5, .int .u32 s.x6, .int .u32 s.x7] 23) = w0 := ⟨_, rfl⟩
  have hw2 : w1.alloc (.cells #[.int .u32 s.x0, .int .u32 s.x1, .int .u32 s.x2, .int .u32 s.x3, .int .u32 s.x4, .int .u32 s.x5, .int .u32 s.x6, .int .u32 s.x7] 23) = w0 := by rw [← hw1]; exact hw0
  have hX0 : Arr .u32 23 w.heap.size s.toL w0.drew := by rw [← hw2]; exact hX1.al _
  have hY0 : Arr .u32 23 (w.heap.size + 1) s.toL w0.drew := by rw [← hw2, ← a1]; exact heap_alloc_new w1 _
  have hB : Below w.heap.size w w0.drew := by rw [← hw2]; exact (hB1.alloc hB1.size _).drew
  have HL := Lib.hid (hL.below hB)
  have HS0 := Lib.hid (⟨hX0.c8, hY0.c8⟩ : (w0.drew.cell? ⟨w.heap.size, 0, none⟩ = some (.int .u32 s.x0) ∧ w0.drew.cell? ⟨w.heap.size, 1, none⟩ = some (.int .u32 s.x1) ∧ w0.drew.cell? ⟨w.heap.size, 2, none⟩ = some (.int .u32 s.x2) ∧ w0.drew.cell? ⟨w.heap.size, 3, none⟩ = some (.int .u32 s.x3) ∧ w0.drew.cell? ⟨w.heap.size, 4, none⟩ = some (.int .u32 s.x4) ∧ w0.drew.cell? ⟨w.heap.size, 5, none⟩ = some (.int .u32 s.x5) ∧ w0.drew.cell? ⟨w.heap.size, 6, none⟩ = some (.int .u32 s.x6) ∧ w0.drew.cell? ⟨w.heap.size, 7, none⟩ = some (.int .u32 s.x7)) ∧ (w0.drew.cell? ⟨(w.heap.size + 1), 0, none⟩ = some (.int .u32 s.x0) ∧ w0.drew.cell? ⟨(w.heap.size + 1), 1, none⟩ = some (.int .u32 s.x1) ∧ w0.drew.cell? ⟨(w.heap.size + 1), 2, none⟩ = some (.int .u32 s.x2) ∧ w0.drew.cell? ⟨(w.heap.size + 1), 3, none⟩ = some (.int .u32 s.x3) ∧ w0.drew.cell? ⟨(w.heap.size + 1), 4, none⟩ = some (.int .u32 s.x4) ∧ w0.drew.cell? ⟨(w.heap.size + 1), 5, none⟩ = some (.int .u32 s.x5) ∧ w0.drew.cell? ⟨(w.heap.size + 1), 6, none⟩ = some (.int .u32 s.x6) ∧ w0.drew.cell? ⟨(w.heap.size + 1), 7, none⟩ = some (.int .u32 s.x7)))
  clear hX0 hY0 hL hX1 hB1 hw2 hw1 a1
  have HW := Lib.hid hw0
  clear hw0
  go_enter Tryd.func4, Tryd.ntmps4
  go_wp2_with fail
  rw [HW.out]
  clear HW
  go_region_held3 (fun w' => (w'.cell? ⟨w.heap.size, 0, none⟩ = some (.int .u32 s.x0) ∧ w'.cell? ⟨w.heap.size, 1, none⟩ = some (.int .u32 s.x1) ∧ w'.cell? ⟨w.heap.size, 2, none⟩ = some (.int .u32 s.x2) ∧ w'.cell? ⟨w.heap.size, 3, none⟩ = some (.int .u32 s.x3) ∧ w'.cell? ⟨w.heap.size, 4, none⟩ = some (.int .u32 s.x4) ∧ w'.cell? ⟨w.heap.size, 5, none⟩ = some (.int .u32 s.x5) ∧ w'.cell? ⟨w.heap.size, 6, none⟩ = some (.int .u32 s.x6) ∧ w'.cell? ⟨w.heap.size, 7, none⟩ = some (.int .u32 s.x7)) ∧ (w'.cell? ⟨(w.heap.size + 1), 0, none⟩ = some (.int .u32 s.x0) ∧ w'.cell? ⟨(w.heap.size + 1), 1, none⟩ = some (.int .u32 s.x1) ∧ w'.cell? ⟨(w.heap.size + 1), 2, none⟩ = some (.int .u32 s.x2) ∧ w'.cell? ⟨(w.heap.size + 1), 3, none⟩ = some (.int .u32 s.x3) ∧ w'.cell? ⟨(w.heap.size + 1), 4, none⟩ = some (.int .u32 s.x4) ∧ w'.cell? ⟨(w.heap.size + 1), 5, none⟩ = some (.int .u32 s.x5) ∧ w'.cell? ⟨(w.heap.size + 1), 6, none⟩ = some (.int .u32 s.x6) ∧ w'.cell? ⟨(w.heap.size + 1), 7, none⟩ = some (.int .u32 s.x7)))
    (first | ((with_reducible refine keepSS (s := s) (t := s) hA ?_); assumption) | (with_reducible exact HS0.out))
    (first
      | (go_at_call 11; (with_reducible refine (awakeD_any _ HL.out).mono ?_); rintro e w' ⟨rfl, hA⟩; have HL := Lib.hid (HL.out.below hA); have hB := hB.trans (hA.mono hB.size))
      | (go_at_call 12; (with_reducible refine (mixC s y _ hs HL.out HY.out).mono ?_); rintro e w' ⟨rfl, hA⟩; have HL := Lib.hid (HL.out.below hA); have hB := hB.trans (hA.mono hB.size))
      | (go_at_call 12; (with_reducible refine (mixC u s _ huo HL.out HUB.out).mono ?_); rintro e w' ⟨rfl, hA⟩; have HL := Lib.hid (HL.out.below hA); have hB := hB.trans (hA.mono hB.size))
      | (go_at_call 14; (with_reducible refine (unmC y s _ hyo HL.out HYB.out).mono ?_); rintro e w' ⟨rfl, hA⟩; have HL := Lib.hid (HL.out.below hA); have hB := hB.trans (hA.mono hB.size))
      | (go_at_call 14; (with_reducible refine (unmC s u _ hs HL.out HU.out).mono ?_); rintro e w' ⟨rfl, hA⟩; have HL := Lib.hid (HL.out.below hA); have hB := hB.trans (hA.mono hB.size)))
  all_goals (go_wp2_with fail; go_ret; exact ⟨rfl, hB⟩)

set_option maxHeartbeats 4000000 in
theorem back_diff (s t : S8) (w : World) (hs : s.ok) (ht : t.ok) (hne : s ≠ t) (hL : DgOk w) : Calls Tryd.prog 4 #[.agg #[.int .u32 s.x0, .int .u32 s.x1, .int .u32 s.x2, .int .u32 s.x3, .int .u32 s.x4, .int .u32 s.x5, .int .u32 s.x6, .int .u32 s.x7], .agg #[.int .u32 t.x0, .int .u32 t.x1, .int .u32 t.x2, .int .u32 t.x3, .int .u32 t.x4, .int .u32 t.x5, .int .u32 t.x6, .int .u32 t.x7]] w fun e w' => e = .returned (.bool true) ∧ Below w.heap.size w w' := by
  obtain ⟨y, hy⟩ : ∃ y, mixN 8 s = y := ⟨_, rfl⟩
  obtain ⟨u, hu⟩ : ∃ u, unmN 8 s = u := ⟨_, rfl⟩
  obtain ⟨z, hz⟩ : ∃ z, mixN 8 t = z := ⟨_, rfl⟩
  have hyz : y ≠ z := by rw [← hy, ← hz]; exact fun h => hne ((mix_inj 8 hs ht).mp h)
  have HZ := Lib.hid hz
  clear hz
  have hE2 := eqS_no hyz
  have hE3 := eqS_no hne
  clear hyz hne
  have hyo : y.ok := by rw [← hy]; exact mixN_ok 8 hs
  have huo : u.ok := by rw [← hu]; exact unmN_ok 8 hs
  have HYB : Hid (unmN 8 y = s) := by show _ = _; rw [← hy]; exact unm_mix 8 hs
  have HUB : Hid (mixN 8 u = s) := by show _ = _; rw [← hu]; exact mix_unm 8 hs
  have HY := Lib.hid hy
  have HU := Lib.hid hu
  clear hy hu
  have hE1 := eqS_yes s
  obtain ⟨w1, hw1⟩ : ∃ w1, w.alloc (.cells #[.int .u32 s.x0, .int .u32 s.x1, .int .u32 s.x2, .int .u32 s.x3, .int .u32 s.x4, .int .u32 s.x5, .int .u32 s.x6, .int .u32 s.x7] 23) = w1 := ⟨_, rfl⟩
  have a1 : w1.heap.size = w.heap.size + 1 := by rw [← hw1]; simp
  have hX1 : Arr .u32 23 w.heap.size s.toL w1 := by rw [← hw1]; exact heap_alloc_new w _
  have hB1 : Below w.heap.size w w1 := by rw [← hw1]; exact (Below.refl _ _).alloc (Nat.le_refl _) _
  obtain ⟨w0, hw0⟩ : ∃ w0, (w.alloc (.cells #[.int .u32 s.x0, .int .u32 s.x1, .int .u32 s.x2, .int .u32 s.x3, .int .u32 s.x4, .int .u32 s.x5, .int .u32 s.x6, .int .u32 s.x7] 23)).alloc (.cells #[.int .u32 t.x0, .int .u32 t.x1, .int .u32 t.x2, .int .u32 t.x3, .int .u32 t.x4, .int .u32 t.x5, .int .u32 t.x6, .int .u32 t.x7] 23) = w0 := ⟨_, rfl⟩
  have hw2 : w1.alloc (.cells #[.int .u32 t.x0, .int .u32 t.x1, .int .u32 t.x2, .int .u32 t.x3, .int .u32 t.x4, .int .u32 t.x5, .int .u32 t.x6, .int .u32 t.x7] 23) = w0 := by rw [← hw1]; exact hw0
  have hX0 : Arr .u32 23 w.heap.size s.toL w0.drew := by rw [← hw2]; exact hX1.al _
  have hY0 : Arr .u32 23 (w.heap.size + 1) t.toL w0.drew := by rw [← hw2, ← a1]; exact heap_alloc_new w1 _
  have hB : Below w.heap.size w w0.drew := by rw [← hw2]; exact (hB1.alloc hB1.size _).drew
  have HL := Lib.hid (hL.below hB)
  have HS0 := Lib.hid (⟨hX0.c8, hY0.c8⟩ : (w0.drew.cell? ⟨w.heap.size, 0, none⟩ = some (.int .u32 s.x0) ∧ w0.drew.cell? ⟨w.heap.size, 1, none⟩ = some (.int .u32 s.x1) ∧ w0.drew.cell? ⟨w.heap.size, 2, none⟩ = some (.int .u32 s.x2) ∧ w0.drew.cell? ⟨w.heap.size, 3, none⟩ = some (.int .u32 s.x3) ∧ w0.drew.cell? ⟨w.heap.size, 4, none⟩ = some (.int .u32 s.x4) ∧ w0.drew.cell? ⟨w.heap.size, 5, none⟩ = some (.int .u32 s.x5) ∧ w0.drew.cell? ⟨w.heap.size, 6, none⟩ = some (.int .u32 s.x6) ∧ w0.drew.cell? ⟨w.heap.size, 7, none⟩ = some (.int .u32 s.x7)) ∧ (w0.drew.cell? ⟨(w.heap.size + 1), 0, none⟩ = some (.int .u32 t.x0) ∧ w0.drew.cell? ⟨(w.heap.size + 1), 1, none⟩ = some (.int .u32 t.x1) ∧ w0.drew.cell? ⟨(w.heap.size + 1), 2, none⟩ = some (.int .u32 t.x2) ∧ w0.drew.cell? ⟨(w.heap.size + 1), 3, none⟩ = some (.int .u32 t.x3) ∧ w0.drew.cell? ⟨(w.heap.size + 1), 4, none⟩ = some (.int .u32 t.x4) ∧ w0.drew.cell? ⟨(w.heap.size + 1), 5, none⟩ = some (.int .u32 t.x5) ∧ w0.drew.cell? ⟨(w.heap.size + 1), 6, none⟩ = some (.int .u32 t.x6) ∧ w0.drew.cell? ⟨(w.heap.size + 1), 7, none⟩ = some (.int .u32 t.x7)))
  clear hX0 hY0 hL hX1 hB1 hw2 hw1 a1
  have HW := Lib.hid hw0
  clear hw0
  go_enter Tryd.func4, Tryd.ntmps4
  go_wp2_with fail
  rw [HW.out]
  clear HW
  go_region_held3 (fun w' => (w'.cell? ⟨w.heap.size, 0, none⟩ = some (.int .u32 s.x0) ∧ w'.cell? ⟨w.heap.size, 1, none⟩ = some (.int .u32 s.x1) ∧ w'.cell? ⟨w.heap.size, 2, none⟩ = some (.int .u32 s.x2) ∧ w'.cell? ⟨w.heap.size, 3, none⟩ = some (.int .u32 s.x3) ∧ w'.cell? ⟨w.heap.size, 4, none⟩ = some (.int .u32 s.x4) ∧ w'.cell? ⟨w.heap.size, 5, none⟩ = some (.int .u32 s.x5) ∧ w'.cell? ⟨w.heap.size, 6, none⟩ = some (.int .u32 s.x6) ∧ w'.cell? ⟨w.heap.size, 7, none⟩ = some (.int .u32 s.x7)) ∧ (w'.cell? ⟨(w.heap.size + 1), 0, none⟩ = some (.int .u32 t.x0) ∧ w'.cell? ⟨(w.heap.size + 1), 1, none⟩ = some (.int .u32 t.x1) ∧ w'.cell? ⟨(w.heap.size + 1), 2, none⟩ = some (.int .u32 t.x2) ∧ w'.cell? ⟨(w.heap.size + 1), 3, none⟩ = some (.int .u32 t.x3) ∧ w'.cell? ⟨(w.heap.size + 1), 4, none⟩ = some (.int .u32 t.x4) ∧ w'.cell? ⟨(w.heap.size + 1), 5, none⟩ = some (.int .u32 t.x5) ∧ w'.cell? ⟨(w.heap.size + 1), 6, none⟩ = some (.int .u32 t.x6) ∧ w'.cell? ⟨(w.heap.size + 1), 7, none⟩ = some (.int .u32 t.x7)))
    (first | ((with_reducible refine keepSS (s := s) (t := t) hA ?_); assumption) | (with_reducible exact HS0.out))
    (first
      | (go_at_call 11; (with_reducible refine (awakeD_any _ HL.out).mono ?_); rintro e w' ⟨rfl, hA⟩; have HL := Lib.hid (HL.out.below hA); have hB := hB.trans (hA.mono hB.size))
      | (go_at_call 12; (with_reducible refine (mixC s y _ hs HL.out HY.out).mono ?_); rintro e w' ⟨rfl, hA⟩; have HL := Lib.hid (HL.out.below hA); have hB := hB.trans (hA.mono hB.size))
      | (go_at_call 12; (with_reducible refine (mixC u s _ huo HL.out HUB.out).mono ?_); rintro e w' ⟨rfl, hA⟩; have HL := Lib.hid (HL.out.below hA); have hB := hB.trans (hA.mono hB.size))
      | (go_at_call 14; (with_reducible refine (unmC y s _ hyo HL.out HYB.out).mono ?_); rintro e w' ⟨rfl, hA⟩; have HL := Lib.hid (HL.out.below hA); have hB := hB.trans (hA.mono hB.size))
      | (go_at_call 14; (with_reducible refine (unmC s u _ hs HL.out HU.out).mono ?_); rintro e w' ⟨rfl, hA⟩; have HL := Lib.hid (HL.out.below hA); have hB := hB.trans (hA.mono hB.size))
      | (go_at_call 12; (with_reducible refine (mixC t z _ ht HL.out HZ.out).mono ?_); rintro e w' ⟨rfl, hA⟩; have HL := Lib.hid (HL.out.below hA); have hB := hB.trans (hA.mono hB.size)))
  all_goals (go_wp2_with fail; go_ret; exact ⟨rfl, hB⟩)

theorem back3_any (s t : S8) (w : World) (hs : s.ok) (ht : t.ok) (hL : DgOk w) : Calls Tryd.prog 4 #[.agg #[.int .u32 s.x0, .int .u32 s.x1, .int .u32 s.x2, .int .u32 s.x3, .int .u32 s.x4, .int .u32 s.x5, .int .u32 s.x6, .int .u32 s.x7], .agg #[.int .u32 t.x0, .int .u32 t.x1, .int .u32 t.x2, .int .u32 t.x3, .int .u32 t.x4, .int .u32 t.x5, .int .u32 t.x6, .int .u32 t.x7]] w fun e w' => e = .returned (.bool true) ∧ Below w.heap.size w w' := by
  by_cases h : s = t
  · subst h; exact back_same s w hs hL
  · exact back_diff s t w hs ht h hL

set_option maxHeartbeats 4000000 in
theorem pairs3_any (a b : D4) (w : World) (ha : a.ok) (hb : b.ok) (hL : DgOk w) : Calls Tryd.prog 6 #[.agg #[.int .u32 a.d0, .int .u32 a.d1, .int .u32 a.d2, .int .u32 a.d3], .agg #[.int .u32 b.d0, .int .u32 b.d1, .int .u32 b.d2, .int .u32 b.d3]] w fun e w' => e = .returned (.bool true) ∧ Below w.heap.size w w' := by
  obtain ⟨y, hy⟩ : ∃ y, pairS a b = y := ⟨_, rfl⟩
  obtain ⟨z, hz⟩ : ∃ z, pairS b a = z := ⟨_, rfl⟩
  have HY := Lib.hid hy
  have HZ := Lib.hid hz
  clear hy hz
  have hE1 := eqD_yes y
  have hE2 := eqD_yes z
  obtain ⟨w1, hw1⟩ : ∃ w1, w.alloc (.cells #[.int .u32 a.d0, .int .u32 a.d1, .int .u32 a.d2, .int .u32 a.d3] 29) = w1 := ⟨_, rfl⟩
  have a1 : w1.heap.size = w.heap.size + 1 := by rw [← hw1]; simp
  have hX1 : Arr .u32 29 w.heap.size a.toL w1 := by rw [← hw1]; exact heap_alloc_new w _
  have hB1 : Below w.heap.size w w1 := by rw [← hw1]; exact (Below.refl _ _).alloc (Nat.le_refl _) _
  obtain ⟨w0, hw0⟩ : ∃ w0, (w.alloc (.cells #[.int .u32 a.d0, .int .u32 a.d1, .int .u32 a.d2, .int .u32 a.d3] 29)).alloc (.cells #[.int .u32 b.d0, .int .u32 b.d1, .int .u32 b.d2, .int .u32 b.d3] 29) = w0 := ⟨_, rfl⟩
  have hw2 : w1.alloc (.cells #[.int .u32 b.d0, .int .u32 b.d1, .int .u32 b.d2, .int .u32 b.d3] 29) = w0 := by rw [← hw1]; exact hw0
  have hX0 : Arr .u32 29 w.heap.size a.toL w0.drew := by rw [← hw2]; exact hX1.al _
  have hY0 : Arr .u32 29 (w.heap.size + 1) b.toL w0.drew := by rw [← hw2, ← a1]; exact heap_alloc_new w1 _
  have hB : Below w.heap.size w w0.drew := by rw [← hw2]; exact (hB1.alloc hB1.size _).drew
  have HL := Lib.hid (hL.below hB)
  have HS0 := Lib.hid (⟨hX0.c4, hY0.c4⟩ : (w0.drew.cell? ⟨w.heap.size, 0, none⟩ = some (.int .u32 a.d0) ∧ w0.drew.cell? ⟨w.heap.size, 1, none⟩ = some (.int .u32 a.d1) ∧ w0.drew.cell? ⟨w.heap.size, 2, none⟩ = some (.int .u32 a.d2) ∧ w0.drew.cell? ⟨w.heap.size, 3, none⟩ = some (.int .u32 a.d3)) ∧ (w0.drew.cell? ⟨(w.heap.size + 1), 0, none⟩ = some (.int .u32 b.d0) ∧ w0.drew.cell? ⟨(w.heap.size + 1), 1, none⟩ = some (.int .u32 b.d1) ∧ w0.drew.cell? ⟨(w.heap.size + 1), 2, none⟩ = some (.int .u32 b.d2) ∧ w0.drew.cell? ⟨(w.heap.size + 1), 3, none⟩ = some (.int .u32 b.d3)))
  clear hX0 hY0 hL hX1 hB1 hw2 hw1 a1
  have HW := Lib.hid hw0
  clear hw0
  go_enter Tryd.func6, Tryd.ntmps6
  go_wp2_with fail
  rw [HW.out]
  clear HW
  go_region_held3 (fun w' => (w'.cell? ⟨w.heap.size, 0, none⟩ = some (.int .u32 a.d0) ∧ w'.cell? ⟨w.heap.size, 1, none⟩ = some (.int .u32 a.d1) ∧ w'.cell? ⟨w.heap.size, 2, none⟩ = some (.int .u32 a.d2) ∧ w'.cell? ⟨w.heap.size, 3, none⟩ = some (.int .u32 a.d3)) ∧ (w'.cell? ⟨(w.heap.size + 1), 0, none⟩ = some (.int .u32 b.d0) ∧ w'.cell? ⟨(w.heap.size + 1), 1, none⟩ = some (.int .u32 b.d1) ∧ w'.cell? ⟨(w.heap.size + 1), 2, none⟩ = some (.int .u32 b.d2) ∧ w'.cell? ⟨(w.heap.size + 1), 3, none⟩ = some (.int .u32 b.d3)))
    (first | ((with_reducible refine keepDD (d := a) (c := b) hA ?_); assumption) | (with_reducible exact HS0.out))
    (first
      | (go_at_call 11; (with_reducible refine (awakeD_any _ HL.out).mono ?_); rintro e w' ⟨rfl, hA⟩; have HL := Lib.hid (HL.out.below hA); have hB := hB.trans (hA.mono hB.size))
      | (go_at_call 18; (with_reducible refine (pairC a b y _ ha hb HL.out HY.out).mono ?_); rintro e w' ⟨rfl, hA⟩; have HL := Lib.hid (HL.out.below hA); have hB := hB.trans (hA.mono hB.size))
      | (go_at_call 18; (with_reducible refine (pairC b a z _ hb ha HL.out HZ.out).mono ?_); rintro e w' ⟨rfl, hA⟩; have HL := Lib.hid (HL.out.below hA); have hB := hB.trans (hA.mono hB.size))
      | (go_at_call 19; (with_reducible refine (pairR a b y _ ha hb HY.out).mono ?_); rintro e w' ⟨rfl, hA⟩; have HL := Lib.hid (HL.out.below hA); have hB := hB.trans (hA.mono hB.size))
      | (go_at_call 19; (with_reducible refine (pairR b a z _ hb ha HZ.out).mono ?_); rintro e w' ⟨rfl, hA⟩; have HL := Lib.hid (HL.out.below hA); have hB := hB.trans (hA.mono hB.size)))
  all_goals (go_wp2_with fail; go_ret; exact ⟨rfl, hB⟩)

end Go.Proofs.YtepcpjppogcjbaaDoor
