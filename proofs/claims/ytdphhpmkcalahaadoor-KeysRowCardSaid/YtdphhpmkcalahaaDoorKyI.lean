/-
  The code's seed of a key: an array that a closure fills.
-/
import Derived.Test.YtdphhpmkcalahaaDoorKyA
import Derived.Test.YtdphhpmkcalahaaDoorBox
import Derived.Lib.BufferWrite
import Derived.Laws.IdiomStrings
import Derived.Laws.CopyOwn
namespace Go.Proofs.YtdphhpmkcalahaaDoor
open Go.RowKit

theorem cbytes_named (b o n cap : Nat) (xs : List Int) (t : ByteArray) (w : World) (hn : n = xs.length) (hl : xs.length ≤ 1000000) (hx : ∀ (k : Nat) (h : k < xs.length), 0 ≤ xs[k] ∧ xs[k] < 4294967296) (hb : b < w.heap.size) (hc : ∀ (k : Nat) (h : k < xs.length), w.cell? ⟨b, o + k, none⟩ = some (.int .u32 xs[k])) (ht : t.data.toList = wbytes xs) :
    Calls Tryd.prog 55 #[.slice (some ⟨b, o, none⟩) n cap] w fun e w' => e = .returned (.string t) ∧ Below w.heap.size w w' := by
  subst hn
  rw [show t = ⟨(wbytes xs).toArray⟩ by rw [← ht]]
  exact bytes_any (some ⟨b, o, none⟩) xs cap w hl hx (fun _ => ⟨b, o, rfl, hb, hc⟩)
theorem cof_named (t : ByteArray) (y : D4) (w : World) (hs : t.size ≤ 100000) (hT : TurnsOk w) (hy : ofD t.data.toList = y) : Calls Tryd.prog 46 #[.string t] w fun e w' => e = .returned (.agg #[.int .u32 y.d0, .int .u32 y.d1, .int .u32 y.d2, .int .u32 y.d3]) ∧ Below w.heap.size w w' := by
  subst hy; exact cof_any t w hs hT
theorem dig_words {s : D4} (hs : s.ok) : ∀ (k : Nat) (h : k < s.toL.length), 0 ≤ s.toL[k] ∧ s.toL[k] < 4294967296 := fun k h => by
  obtain ⟨a, b, c, d⟩ := hs
  match k, h with
  | 0, _ => exact a
  | 1, _ => exact b
  | 2, _ => exact c
  | 3, _ => exact d
theorem dig_cells {t : TypeId} {b : Nat} {s : D4} {w : World} (hA : Arr .u32 t b s.toL w) : ∀ (k : Nat) (h : k < s.toL.length), w.cell? ⟨b, 0 + k, none⟩ = some (.int .u32 s.toL[k]) := fun k h => by
  rw [Nat.zero_add, hA.cell h]
  rw [List.getD_eq_getElem?_getD, List.getElem?_eq_getElem h]
  rfl
/-- A string's bytes laid over a row from a place on. -/
def lay21 (l : List UInt8) (k : Nat) (s : List UInt8) : List UInt8 := l.take k ++ s ++ l.drop (k + s.length)
theorem lay21_len (l : List UInt8) (k : Nat) (s : List UInt8) (h : k + s.length ≤ l.length) : (lay21 l k s).length = l.length := by simp [lay21]; omega
theorem lay21_three (z a b c : List UInt8) (k m : Nat) (hk : a.length = k) (hm : k + b.length = m) (hz : z.length = m + c.length) : lay21 (lay21 (lay21 z 0 a) k b) m c = a ++ b ++ c := by
  subst hk; subst hm
  have e1 : lay21 z 0 a = a ++ z.drop a.length := by simp [lay21]
  have e2 : lay21 (a ++ z.drop a.length) a.length b = a ++ b ++ z.drop (a.length + b.length) := by
    simp [lay21, List.drop_append]
  have e3 : (z.drop (a.length + b.length + c.length)) = [] := List.drop_eq_nil_of_le (by omega)
  rw [e1, e2]
  have t1 : (a ++ b ++ z.drop (a.length + b.length)).take (a.length + b.length) = a ++ b := by
    rw [List.take_append_of_le_length (by simp)]
    exact List.take_of_length_le (by simp)
  have t2 : (a ++ b ++ z.drop (a.length + b.length)).drop (a.length + b.length + c.length) = [] := by
    apply List.drop_eq_nil_of_le; simp; omega
  unfold lay21
  rw [t1, t2]; simp
theorem byteCells_lay (l : List UInt8) (k : Nat) (s : List UInt8) : (Lib.byteCells l).take k ++ Lib.byteCells s ++ (Lib.byteCells l).drop (k + s.length) = Lib.byteCells (lay21 l k s) := by
  simp [Lib.byteCells, lay21, List.map_take, List.map_drop]
def zeros21 : List UInt8 := List.replicate 21 0
theorem start_seed (s : D4) (w w0 : World) (h : (((w.alloc (.cells #[.int .u32 s.d0, .int .u32 s.d1, .int .u32 s.d2, .int .u32 s.d3] 24)).alloc (.cells #[.int .u32 0, .int .u32 0, .int .u32 0, .int .u32 0] 24)).alloc (.cells #[.int .u8 0, .int .u8 0, .int .u8 0, .int .u8 0, .int .u8 0, .int .u8 0, .int .u8 0, .int .u8 0, .int .u8 0, .int .u8 0, .int .u8 0, .int .u8 0, .int .u8 0, .int .u8 0, .int .u8 0, .int .u8 0, .int .u8 0, .int .u8 0, .int .u8 0, .int .u8 0, .int .u8 0] 78)).alloc (.cells #[.int .i64 0] 3) = w0) :
    Arr .u32 24 w.heap.size s.toL w0 ∧ Arr .u32 24 (w.heap.size + 1) [0, 0, 0, 0] w0 ∧ Box 78 (w.heap.size + 1 + 1) (Lib.byteCells zeros21) w0 ∧ Box 3 (w.heap.size + 1 + 1 + 1) [.int .i64 0] w0 ∧ Below w.heap.size w w0 := by
  subst h
  obtain ⟨w1, h1⟩ : ∃ w1, (w.alloc (.cells #[.int .u32 s.d0, .int .u32 s.d1, .int .u32 s.d2, .int .u32 s.d3] 24)).alloc (.cells #[.int .u32 0, .int .u32 0, .int .u32 0, .int .u32 0] 24) = w1 := ⟨_, rfl⟩
  obtain ⟨hX, hY, hB⟩ := start46 s w w1 h1
  have a1 : w1.heap.size = w.heap.size + 1 + 1 := by rw [← h1]; simp
  rw [h1]
  obtain ⟨w2, h2⟩ : ∃ w2, w1.alloc (.cells #[.int .u8 0, .int .u8 0, .int .u8 0, .int .u8 0, .int .u8 0, .int .u8 0, .int .u8 0, .int .u8 0, .int .u8 0, .int .u8 0, .int .u8 0, .int .u8 0, .int .u8 0, .int .u8 0, .int .u8 0, .int .u8 0, .int .u8 0, .int .u8 0, .int .u8 0, .int .u8 0, .int .u8 0] 78) = w2 := ⟨_, rfl⟩
  have hZ : Box 78 w1.heap.size (Lib.byteCells zeros21) w2 := by rw [← h2]; exact Box.new 78 (Lib.byteCells zeros21) w1
  have a2 : w2.heap.size = w.heap.size + 1 + 1 + 1 := by rw [← h2]; simp [a1]
  have hB2 : Below w.heap.size w w2 := by rw [← h2]; exact hB.alloc (by omega) _
  have hX2 : Arr .u32 24 w.heap.size s.toL w2 := by rw [← h2]; exact hX.al _
  have hY2 : Arr .u32 24 (w.heap.size + 1) [0, 0, 0, 0] w2 := by rw [← h2]; exact hY.al _
  rw [h2]
  refine ⟨hX2.al _, hY2.al _, by rw [← a1]; exact hZ.al _, ?_, hB2.alloc (by omega) _⟩
  rw [← a2]
  exact Box.new 3 [.int .i64 0] w2
set_option maxHeartbeats 4000000 in
set_option maxRecDepth 100000 in
/-- The closure: a string's bytes go into the array from the place on, which goes on. -/
theorem cput_any (B ba bb k n : Nat) (l : List UInt8) (s : ByteArray) (w : World) (hA : Box 3 ba [.int .i64 (k : Int)] w) (hb : Box 78 bb (Lib.byteCells l) w) (hl : l.length = 21) (hk : k + s.size ≤ 21) (hk1 : k < 21) (hn : k + s.size = n) (hne : ba ≠ bb) (hBa : B ≤ ba) (hBb : B ≤ bb) :
    Calls Tryd.prog 54 #[.string s, .pointer (some ⟨ba, 0, none⟩), .pointer (some ⟨bb, 0, none⟩)] w fun e w' => e = .returned (.tuple #[]) ∧ Box 3 ba [.int .i64 (n : Int)] w' ∧ Box 78 bb (Lib.byteCells (lay21 l k s.data.toList)) w' ∧ Below B w w' := by
  have a0 := hA.cell (j := 0) rfl
  have af := hA.fz 0
  have hal : Tryd.prog.arrayLen 78 = 21 := by kernel_rfl
  have hsl : ∀ W, (Instr.sliceAt 78 (.pointer (some ⟨bb, 0, none⟩)) (some (.int .i64 (k : Int))) none none).run Tryd.prog W = .ok (.slice (some ⟨bb, k, none⟩) (21 - k) (21 - k)) W := fun W => by
    rw [run_sliceAt_array_l W 78 ⟨bb, 0, none⟩ (by kernel_rfl) .i64 (k : Int) (by omega) (by rw [hal]; omega), hal]
    go_simp
    simp [show ¬ (21 = k) by omega]
  have hlen : (Lib.byteCells l).length = 21 := by simp [Lib.byteCells, hl]
  obtain ⟨w1, hw1⟩ : ∃ w1, w.setRow bb ((Lib.byteCells l).take k ++ Lib.byteCells s.data.toList ++ (Lib.byteCells l).drop (k + s.size)).toArray = w1 := ⟨_, rfl⟩
  have hss : s.data.toList.length = s.size := by rw [Array.length_toList]; rfl
  have hcp : (Builtin.copy_ #[79, 9] 3 #[.slice (some ⟨bb, k, none⟩) (21 - k) (21 - k), .string s]).run Tryd.prog w.drew = .ok (goInt s.size) w1.drew := by
    rw [← hw1]
    have := Lib.run_copy_row_string (P := Tryd.prog) w.drew 79 9 3 5 bb k (21 - k) (21 - k) s (Lib.byteCells l).toArray 78 Tryd.underlying79 (by rfl) hb (by omega) (by simp [hlen]; omega)
    rw [this]
    rfl
  have hB1 : Box 78 bb (Lib.byteCells (lay21 l k s.data.toList)) w1 := by
    rw [← hw1, ← byteCells_lay, hss]
    exact setRow_heap w bb _ _ _ _ hb
  have hA1 : Box 3 ba [.int .i64 (k : Int)] w1 := by
    rw [← hw1]
    unfold Box
    rw [setRow_other w bb ba _ hne]
    exact hA
  have hD1 : Below B w w1 := by rw [← hw1]; exact below_setRow (Below.refl _ _) hBb _
  have b0 := hA1.cell (j := 0) rfl
  have bf := hA1.fz 0
  have a0' : w.drew.cell? ⟨ba, 0, none⟩ = some (.int .i64 (k : Int)) := a0
  have b0' : w1.drew.cell? ⟨ba, 0, none⟩ = some (.int .i64 (k : Int)) := b0
  have bf' : w1.drew.frozen? ⟨ba, 0, none⟩ = false := bf
  have hk0 : (0 : Int) ≤ (k : Int) := by omega
  have hwp : IntKind.i64.wrap ((k : Int) + (s.size : Int)) = (k : Int) + (s.size : Int) := IntWalk.i64_in _ (by omega)
  clear hw1
  go_enter Tryd.func54, Tryd.ntmps54
  go_wp2_with fail
  have hA2 := hA1.set 0 (.int .i64 ((k : Int) + (s.size : Int)))
  have hB2 := hB1.far (a := ⟨ba, 0, none⟩) (Ne.symm hne) (.int .i64 ((k : Int) + (s.size : Int)))
  have hD2 := hD1.setCell (p := ⟨ba, 0, none⟩) hBa (.int .i64 ((k : Int) + (s.size : Int)))
  have hnn : (n : Int) = (k : Int) + (s.size : Int) := by omega
  go_region
  first | go_end0 | refine bodyPost_ret (results_none rfl _ _ _) rfl ?_
  refine ⟨rfl, ?_, hB2, hD2.drew⟩
  rw [hnn]
  exact hA2
set_option maxHeartbeats 2000000 in
set_option maxRecDepth 100000 in
theorem ishigh_any (h : Int) (w : World) : Calls Tryd.prog 26 #[.int .i64 h] w fun e w' => e = .returned (.bool (decide (0 ≤ h) && decide (h ≤ 4))) ∧ w = w' := by
  obtain ⟨g1, hg1⟩ : ∃ g, decide (0 ≤ h) = g := ⟨_, rfl⟩
  obtain ⟨g2, hg2⟩ : ∃ g, decide (h ≤ 4) = g := ⟨_, rfl⟩
  go_enter Tryd.func26, Tryd.ntmps26
  cases g1
  all_goals
    go_wp2
    go_ret
    exact ⟨by simp [hg1, hg2], rfl⟩
set_option maxHeartbeats 4000000 in
set_option maxRecDepth 100000 in
theorem ckeyseed_any (s z : D4) (i : Nat) (w : World) (hs : s.ok) (hi : i ≤ 1000) (hT : TurnsOk w) (hz : seedK s i = z) :
    Calls Tryd.prog 32 #[.agg #[.int .u32 s.d0, .int .u32 s.d1, .int .u32 s.d2, .int .u32 s.d3], .int .i64 (i : Int)] w fun e w' => e = .returned (.agg #[.int .u32 z.d0, .int .u32 z.d1, .int .u32 z.d2, .int .u32 z.d3]) ∧ Below w.heap.size w w' := by
  have hmf : ∀ (fn : Fn) (first cap : Array Value) (w : World), (Instr.makeFunc fn first cap).run Tryd.prog w = .ok (.func fn first cap) w := fun _ _ _ _ => rfl
  obtain ⟨w0, hw0⟩ : ∃ w0, (((w.alloc (.cells #[.int .u32 s.d0, .int .u32 s.d1, .int .u32 s.d2, .int .u32 s.d3] 24)).alloc (.cells #[.int .u32 0, .int .u32 0, .int .u32 0, .int .u32 0] 24)).alloc (.cells #[.int .u8 0, .int .u8 0, .int .u8 0, .int .u8 0, .int .u8 0, .int .u8 0, .int .u8 0, .int .u8 0, .int .u8 0, .int .u8 0, .int .u8 0, .int .u8 0, .int .u8 0, .int .u8 0, .int .u8 0, .int .u8 0, .int .u8 0, .int .u8 0, .int .u8 0, .int .u8 0, .int .u8 0] 78)).alloc (.cells #[.int .i64 0] 3) = w0 := ⟨_, rfl⟩
  obtain ⟨hS0, hR0, hb0, hA0, hB0⟩ := start_seed s w w0 hw0
  have b0 := hA0.cell (j := 0) rfl
  have bf := hA0.fz 0
  obtain ⟨w1, hw1⟩ : ∃ w1, w0.setCell ⟨w.heap.size + 1 + 1 + 1, 0, none⟩ (.int .i64 0) = w1 := ⟨_, rfl⟩
  have hA1 : Box 3 (w.heap.size + 1 + 1 + 1) [.int .i64 ((0 : Nat) : Int)] w1 := by rw [← hw1]; exact hA0.set 0 (.int .i64 0)
  have hb1 : Box 78 (w.heap.size + 1 + 1) (Lib.byteCells zeros21) w1 := by rw [← hw1]; exact hb0.far (a := ⟨w.heap.size + 1 + 1 + 1, 0, none⟩) (show w.heap.size + 1 + 1 ≠ w.heap.size + 1 + 1 + 1 by omega) _
  have hS1 : Arr .u32 24 w.heap.size s.toL w1 := by rw [← hw1]; exact hS0.far (a := ⟨w.heap.size + 1 + 1 + 1, 0, none⟩) (show w.heap.size ≠ w.heap.size + 1 + 1 + 1 by omega) _
  have hR1 : Arr .u32 24 (w.heap.size + 1) [0, 0, 0, 0] w1 := by rw [← hw1]; exact hR0.far (a := ⟨w.heap.size + 1 + 1 + 1, 0, none⟩) (show w.heap.size + 1 ≠ w.heap.size + 1 + 1 + 1 by omega) _
  have hB1 : Below w.heap.size w w1 := by rw [← hw1]; exact hB0.setCell (p := ⟨w.heap.size + 1 + 1 + 1, 0, none⟩) (show w.heap.size ≤ w.heap.size + 1 + 1 + 1 by omega) _
  have hgT : 0 < w.heap.size := tab_low hT gTrn
  obtain ⟨tb, htb⟩ : ∃ t : ByteArray, t.data.toList = wbytes s.toL := ⟨⟨(wbytes s.toL).toArray⟩, rfl⟩
  obtain ⟨ti, hti⟩ : ∃ t : ByteArray, t.data.toList = wbytes [(i : Int)] := ⟨⟨(wbytes [(i : Int)]).toArray⟩, rfl⟩
  obtain ⟨tz, htz⟩ : ∃ t : ByteArray, t.data.toList = seedB s i := ⟨⟨(seedB s i).toArray⟩, rfl⟩
  have HTB := Lib.hid htb
  have HTI := Lib.hid hti
  have HTL := Lib.hid (show tb.data.toList.length = 16 by rw [htb, wbytes_length]; rfl)
  have HTM := Lib.hid (show ti.data.toList.length = 4 by rw [hti, wbytes_length]; rfl)
  have HTS := Lib.hid (show tb.size = 16 by rw [← HTL.out, Array.length_toList]; rfl)
  have HTJ := Lib.hid (show ti.size = 4 by rw [← HTM.out, Array.length_toList]; rfl)
  have HTZ := Lib.hid (show tz.size ≤ 100000 by
    have h1 : tz.data.toList.length = tz.size := by rw [Array.length_toList]; rfl
    rw [← h1, htz, seedB_len]; decide)
  have HALL := Lib.hid (show [107] ++ tb.data.toList ++ ti.data.toList = seedB s i by rw [htb, hti]; simp [seedB, wbytes, D4.toL])
  have hconv : ∀ W : World, Box 78 (w.heap.size + 1 + 1) (Lib.byteCells (seedB s i)) W → (convert 79 9 (.slice (some ⟨w.heap.size + 1 + 1, 0, none⟩) 21 21)).run Tryd.prog W = .ok (.string tz) W := fun W hW => by
    have h := run_convert_bytes_back (P := Tryd.prog) W 79 9 5 ⟨w.heap.size + 1 + 1, 0, none⟩ 21 (seedB s i) Tryd.underlying79 Tryd.underlying5 Tryd.underlying9 (by
      intro j hj
      have : W.cell? ⟨w.heap.size + 1 + 1, j, none⟩ = _ := hW.cell (j := j) (v := .int .u8 ((seedB s i)[j].toNat : Int)) (by simp [Lib.byteCells, hj])
      rw [Lib.add_plain, Nat.zero_add]
      exact this)
    rw [seedB_len] at h
    rw [h, ← htz]
  have HS := Lib.hid hs
  have HT := Lib.hid hT
  have HZ : Hid (ofD tz.data.toList = z) := by show _ = _; rw [htz]; exact hz
  have hwr := wrap_idx i hi
  clear hz hT htb hti htz hs hS0 hR0 hb0 hA0 hB0
  go_enter Tryd.func32, Tryd.ntmps32
  go_wp2_with fail
  clear hw0 hw1 b0 bf
  refine (cput_any (w.heap.size + 1 + 1) (w.heap.size + 1 + 1 + 1) (w.heap.size + 1 + 1) 0 1 zeros21 ⟨#[107]⟩ w1 hA1 hb1 rfl (by decide) (by decide) rfl (by omega) (by omega) (by omega)).mono ?_
  rintro e w2 ⟨rfl, hA2, hb2, hD⟩
  have hS2 := hS1.thr hD (by omega)
  have hR2 := hR1.thr hD (by omega)
  have hB2 := hB1.trans (hD.mono (by omega))
  clear hA1 hb1 hS1 hR1 hB1 hD
  go_wp2_with fail
  refine (cbytes_named w.heap.size 0 4 4 s.toL tb w2 rfl (by simp [D4.toL]) (dig_words HS.out) (by have := hS2.lt; omega) (dig_cells hS2) HTB.out).mono ?_
  rintro e w3 ⟨rfl, hD⟩
  have hA3 := hA2.on hD
  have hb3 := hb2.on hD
  have hS3 := hS2.on hD
  have hR3 := hR2.on hD
  have hB3 := hB2.trans (hD.mono hB2.size)
  clear hA2 hb2 hS2 hR2 hB2 hD
  go_wp2_with fail
  refine (cput_any (w.heap.size + 1 + 1) (w.heap.size + 1 + 1 + 1) (w.heap.size + 1 + 1) 1 17 _ tb w3 hA3 hb3 (lay21_len _ _ _ (by decide)) (by rw [HTS.out]; decide) (by decide) (by rw [HTS.out]) (by omega) (by omega) (by omega)).mono ?_
  rintro e w4 ⟨rfl, hA4, hb4, hD⟩
  have hS4 := hS3.thr hD (by omega)
  have hR4 := hR3.thr hD (by omega)
  have hB4 := hB3.trans (hD.mono (by omega))
  clear hA3 hb3 hS3 hR3 hB3 hD
  obtain ⟨w5, hw5⟩ : ∃ w5, w4.alloc (.cells #[.int .u32 (i : Int)] 22) = w5 := ⟨_, rfl⟩
  have hI5 : Box 22 w4.heap.size [.int .u32 (i : Int)] w5 := by rw [← hw5]; exact Box.new 22 [.int .u32 (i : Int)] w4
  have hD : Below w4.heap.size w4 w5 := by rw [← hw5]; exact (Below.refl _ _).alloc (Nat.le_refl _) _
  have hA5 := hA4.on hD
  have hb5 := hb4.on hD
  have hR5 := hR4.on hD
  have hB5 := hB4.trans (hD.mono hB4.size)
  clear hA4 hb4 hR4 hB4 hD hS4
  go_wp2_with fail
  clear hw5
  refine (cbytes_named w4.heap.size 0 1 1 [(i : Int)] ti w5 rfl (by simp) (fun k hk => ?_) hI5.lt (fun k hk => ?_) HTI.out).mono ?_
  · have : k = 0 := by simpa using hk
    subst this
    exact ⟨by simp, by simp; omega⟩
  · have : k = 0 := by simpa using hk
    subst this
    exact hI5.cell rfl
  rintro e w6 ⟨rfl, hD⟩
  have hA6 := hA5.on hD
  have hb6 := hb5.on hD
  have hR6 := hR5.on hD
  have hB6 := hB5.trans (hD.mono hB5.size)
  clear hA5 hb5 hR5 hB5 hD hI5
  go_wp2_with fail
  refine (cput_any (w.heap.size + 1 + 1) (w.heap.size + 1 + 1 + 1) (w.heap.size + 1 + 1) 17 21 _ ti w6 hA6 hb6 (by rw [lay21_len _ _ _ (by rw [lay21_len _ _ _ (by decide), HTL.out]; decide), lay21_len _ _ _ (by decide)]; rfl) (by rw [HTJ.out]; decide) (by decide) (by rw [HTJ.out]) (by omega) (by omega) (by omega)).mono ?_
  rintro e w7 ⟨rfl, hA7, hb7, hD⟩
  have hR7 := hR6.thr hD (by omega)
  have hB7 := hB6.trans (hD.mono (by omega))
  rw [lay21_three zeros21 [107] tb.data.toList ti.data.toList 1 17 rfl (by rw [HTL.out]) (by rw [HTM.out]; rfl)] at hb7
  have hall : [107] ++ tb.data.toList ++ ti.data.toList = seedB s i := HALL.out
  rw [hall] at hb7
  clear hA6 hb6 hR6 hB6 hD hA7
  have hcv := hconv w7 hb7
  have hsl : ∀ W, (Instr.sliceAt 78 (.pointer (some ⟨w.heap.size + 1 + 1, 0, none⟩)) none none none).run Tryd.prog W = .ok (.slice (some ⟨w.heap.size + 1 + 1, 0, none⟩) 21 21) W := fun W => by
    rw [run_sliceAt_array_all W 78 ⟨w.heap.size + 1 + 1, 0, none⟩ (by kernel_rfl), show Tryd.prog.arrayLen 78 = 21 by kernel_rfl]
    go_simp
  have hT7 := HT.out.below hB7
  go_wp2_with fail
  refine (cof_named tz z w7 HTZ.out hT7 HZ.out).mono ?_
  rintro e w8 ⟨rfl, hD⟩
  have hR8 := hR7.on hD
  have hB8 := hB7.trans (hD.mono hB7.size)
  obtain ⟨b0, b1, b2, b3⟩ := Arr.c4 (d := zeroD) hR8
  obtain ⟨f0, f1, f2, f3⟩ := hR8.f4
  have hRf := put4 (d := z) hR8 rfl
  have hBf := below_put4 hB8 (show w.heap.size ≤ w.heap.size + 1 by omega) z
  clear hR7 hB7 hR8 hB8 hD hT7 hb7 hcv hsl hall
  go_wp2_with fail
  generalize (((w8.setCell ⟨w.heap.size + 1, 0, none⟩ (.int .u32 z.d0)).setCell ⟨w.heap.size + 1, 1, none⟩ (.int .u32 z.d1)).setCell ⟨w.heap.size + 1, 2, none⟩ (.int .u32 z.d2)).setCell ⟨w.heap.size + 1, 3, none⟩ (.int .u32 z.d3) = wf at *
  obtain ⟨r0, r1, r2, r3⟩ := hRf.c4
  refine bodyPost_ret (v := z.val) (by simp [results, Tryd.results32, go_sem, D4.val, r0, r1, r2, r3]) rfl ⟨rfl, hBf⟩
end Go.Proofs.YtdphhpmkcalahaaDoor
