/-
  The tables of the layer's code, and the contracts of the two small functions that read them: a byte's two digits written, and whether a byte is a digit.
-/
import Derived.Test.YtepcpjppogcjbaaDoorRHexR
import Derived.Test.YtepcpjppogcjbaaDoorShA
import Derived.Lib.LaidTab
import Derived.Outline
import Derived.Lib.Hide
namespace Go.Proofs.YtepcpjppogcjbaaDoor
open Go.RowKit Go.Lib

def digTab : List Int := [48, 49, 50, 51, 52, 53, 54, 55, 56, 57, 97, 98, 99, 100, 101, 102]
def valTab : List Int := List.replicate 48 0 ++ [1, 2, 3, 4, 5, 6, 7, 8, 9, 10] ++ List.replicate 7 0 ++ [11, 12, 13, 14, 15, 16] ++ List.replicate 26 0 ++ [11, 12, 13, 14, 15, 16]
theorem digTab_at : ∀ n < 16, digTab.getD n 0 = ((sgn n).toNat : Int) := by decide +kernel
theorem valTab_at : ∀ n < 103, valTab.getD n 0 = if dgt (UInt8.ofNat n) = 16 then 0 else (dgt (UInt8.ofNat n) : Int) + 1 := by decide +kernel
theorem dgt_big : ∀ n < 256, 103 ≤ n → dgt (UInt8.ofNat n) = 16 := by decide +kernel

/-- What the listed variables hold: the two tables of the layer's code. -/
def HexOk (w : World) : Prop := TabIs Tryd.prog w "seedcorn/hex.digits" .u8 digTab ∧ TabIs Tryd.prog w "seedcorn/hex.values" .u8 valTab
theorem tab_low {w : World} {n : String} {k : IntKind} {zs : List Int} {g : Nat} (h : TabIs Tryd.prog w n k zs) (hg : Tryd.prog.globalNamed n = some g) : g < w.heap.size := by
  unfold TabIs World.var? at h
  simp only [hg, Option.bind_some] at h
  rcases Nat.lt_or_ge g w.heap.size with h' | h'
  · exact h'
  · rw [Array.getElem?_eq_none h'] at h; simp at h
theorem tab_below {w w' : World} {n : String} {k : IntKind} {zs : List Int} {g B : Nat} (h : TabIs Tryd.prog w n k zs) (hg : Tryd.prog.globalNamed n = some g) (hgB : g < B) (hB : Below B w w') : TabIs Tryd.prog w' n k zs := by
  unfold TabIs World.var? at *
  simp only [hg, Option.bind_some] at h ⊢
  rw [hB.block g hgB]
  exact h
theorem gDig : Tryd.prog.globalNamed "seedcorn/hex.digits" = some 1 := by kernel_rfl
theorem gVal : Tryd.prog.globalNamed "seedcorn/hex.values" = some 2 := by kernel_rfl
/-- The tables hold, and lie below a bound. -/
def HexIn (B : Nat) (w : World) : Prop := HexOk w ∧ B ≤ w.heap.size ∧ 1 < B ∧ 2 < B
theorem HexOk.isIn {w : World} (h : HexOk w) : HexIn w.heap.size w := ⟨h, Nat.le_refl _, tab_low h.1 gDig, tab_low h.2 gVal⟩
theorem HexIn.below {B : Nat} {w w' : World} (h : HexIn B w) (hB : Below B w w') : HexIn B w' :=
  ⟨⟨tab_below h.1.1 gDig h.2.2.1 hB, tab_below h.1.2 gVal h.2.2.2 hB⟩, Nat.le_trans h.2.1 hB.size, h.2.2.1, h.2.2.2⟩
theorem HexOk.below {w w' : World} (h : HexOk w) (hB : Below w.heap.size w w') : HexOk w' := (h.isIn.below hB).1
theorem HexIn.dig {B : Nat} {w : World} (h : HexIn B w) (n : Nat) (hn : n < 16) : w.cell? ⟨1, n, none⟩ = some (.int .u8 ((sgn n).toNat : Int)) := by
  rw [h.1.1.cell gDig n hn, digTab_at n hn]
theorem HexIn.val {B : Nat} {w : World} (h : HexIn B w) (c : UInt8) (hc : c.toNat < 103) : w.cell? ⟨2, c.toNat, none⟩ = some (.int .u8 (if dgt c = 16 then 0 else (dgt c : Int) + 1)) := by
  rw [h.1.2.cell gVal c.toNat hc, valTab_at c.toNat hc, UInt8.ofNat_toNat]

set_option maxHeartbeats 1000000 in
theorem writeHex_any (B b : Nat) (l : List UInt8) (c : UInt8) (w : World) (h : Lib.IsBuilder 60 5 B b (Lib.byteCells l) w) (hlen : l.length ≤ 100000000) (hL : HexIn B w) :
    Calls Tryd.prog 48 #[.pointer (some ⟨b, 0, none⟩), .int .u8 (c.toNat : Int)] w fun e w' => e = .returned (.tuple #[]) ∧ Lib.IsBuilder 60 5 B b (Lib.byteCells (l ++ [sgn (c.toNat / 16), sgn (c.toNat % 16)])) w' ∧ Below B w w' := by
  have hc := c.toNat_lt
  have HB := Lib.hid h
  have HL := Lib.hid hL
  have hBw := hL.2.1
  have d1 := hL.dig (c.toNat / 16) (by omega)
  clear h hL
  go_enter Tryd.func48, Tryd.ntmps48
  go_wp2_with fail
  refine (writeByte_any B b (Lib.byteCells l) _ w HB.out (by rw [Lib.byteCells_length]; omega) hBw).mono ?_
  rintro e w1 ⟨rfl, h1, hB1⟩
  have H1 := Lib.hid h1
  clear d1 h1
  have d2 := (HL.out.below hB1).dig (c.toNat % 16) (by omega)
  have hBw1 := Nat.le_trans hBw hB1.size
  go_wp2_with fail
  refine (writeByte_any B b (Lib.byteCells l ++ [.int .u8 ((sgn (c.toNat / 16)).toNat : Int)]) _ w1 (Or.inr H1.out) (by rw [List.length_append, Lib.byteCells_length, List.length_singleton]; omega) hBw1).mono ?_
  rintro e w2 ⟨rfl, h2, hB2⟩
  have H2 := Lib.hid h2
  clear d2 h2
  have hB := hB1.trans hB2
  clear hB1 hB2
  go_wp2_with fail
  first | go_end0 | refine bodyPost_ret (results_none rfl _ _ _) rfl ?_
  exact ⟨rfl, Or.inr (by have := H2.out; simp only [Lib.byteCells, List.map_append, List.map_cons, List.map_nil, List.append_assoc, List.cons_append, List.nil_append] at this ⊢; exact this), hB⟩

/-- Is a byte a digit? -/
def hxB (c : UInt8) : Bool := decide (dgt c ≠ 16)
theorem hxB_yes {c : UInt8} (h : dgt c ≠ 16) : hxB c = true := by unfold hxB; simp [h]
theorem hxB_no {c : UInt8} (h : dgt c = 16) : hxB c = false := by unfold hxB; simp [h]
theorem dgt_lt {c : UInt8} (h : dgt c ≠ 16) : c.toNat < 103 := by
  rcases Nat.lt_or_ge c.toNat 103 with q | q
  · exact q
  · exact absurd (by have := dgt_big c.toNat c.toNat_lt q; rwa [UInt8.ofNat_toNat] at this) h

set_option maxHeartbeats 1000000 in
theorem isDigit_walk (c : UInt8) (v : Int) (w : World) (hc : c.toNat < 103) (hv : w.cell? ⟨2, c.toNat, none⟩ = some (.int .u8 v)) :
    Calls Tryd.prog 49 #[.int .u8 (c.toNat : Int)] w fun e w' => e = .returned (.bool (v != 0)) ∧ w = w' := by
  have hc2 := c.toNat_lt
  have t1 : decide ((c.toNat : Int) < 103) = true := by simp; omega
  go_enter Tryd.func49, Tryd.ntmps49
  go_wp2_with fail
  go_ret
  exact ⟨rfl, rfl⟩
set_option maxHeartbeats 1000000 in
theorem isDigit_far (c : UInt8) (w : World) (hc : 103 ≤ c.toNat) :
    Calls Tryd.prog 49 #[.int .u8 (c.toNat : Int)] w fun e w' => e = .returned (.bool false) ∧ w = w' := by
  have hc2 := c.toNat_lt
  have t1 : decide ((c.toNat : Int) < 103) = false := by simp; omega
  go_enter Tryd.func49, Tryd.ntmps49
  go_wp2_with fail
  go_ret
  exact ⟨rfl, rfl⟩
theorem isDigit_any (B : Nat) (c : UInt8) (w : World) (hL : HexIn B w) :
    Calls Tryd.prog 49 #[.int .u8 (c.toNat : Int)] w fun e w' => e = .returned (.bool (hxB c)) ∧ w = w' := by
  rcases Nat.lt_or_ge c.toNat 103 with q | q
  · have h := isDigit_walk c _ w q (hL.val c q)
    by_cases r : dgt c = 16
    · rw [if_pos r] at h; rw [hxB_no r]; exact h
    · rw [if_neg r] at h; rw [hxB_yes r, ← show ((dgt c : Int) + 1 != 0) = true by simp; omega]; exact h
  · rw [hxB_no (by have := dgt_big c.toNat c.toNat_lt q; rwa [UInt8.ofNat_toNat] at this)]
    exact isDigit_far c w q
end Go.Proofs.YtepcpjppogcjbaaDoor
