/-
  The contracts of the code's Text, and of the joining of digits in pairs.
-/
import Derived.Test.YtepcpjppogcjbaaDoorCHexA
import Derived.WalkKit
import Derived.BigQuiet
import Derived.StillTailTactics
namespace Go.Proofs.YtepcpjppogcjbaaDoor
open Go.RowKit

theorem growI (m : Int) (b : Nat) (w : World) (hbk : w.heap[b]? = some (.cells #[.pointer none, .slice none 0 0] 60 (0, 0))) (hBw : b ≤ w.heap.size) (h0 : 0 ≤ m) (hm : m ≤ 281474976710656) :
    Calls Tryd.prog 47 #[.pointer (some ⟨b, 0, none⟩), .int .i64 m] w fun e w' => e = .returned (.tuple #[]) ∧ (Lib.BuilderAt 60 5 b b (.pointer (some ⟨b, 0, none⟩)) [] w' ∧ Below b w w') := by
  obtain ⟨n, rfl⟩ := Int.eq_ofNat_of_zero_le h0
  exact grow_any b b n w (Nat.le_refl _) hbk hBw (by omega)
theorem freshB (w : World) : (w.alloc (.cells #[.pointer none, .slice none 0 0] 60)).heap[w.heap.size]? = some (.cells #[.pointer none, .slice none 0 0] 60 (0, 0)) := by
  show (w.heap.push _)[w.heap.size]? = _
  simp

set_option maxHeartbeats 1000000 in
theorem hexText_any (s : ByteArray) (w : World) (hs : s.size ≤ 1000000) (hL0 : HexOk w) :
    Calls Tryd.prog 35 #[.string s] w fun e w' => e = .returned (.string ⟨(textL s.data.toList).toArray⟩) ∧ Below w.heap.size w w' := by
  have HL := Lib.hid hL0.isIn
  clear hL0
  have HG := Lib.hid (growI (2 * (s.size : Int)) w.heap.size (w.alloc (.cells #[.pointer none, .slice none 0 0] 60)) (freshB w) (by simp) (by omega) (by omega))
  go_enter Tryd.func35, Tryd.ntmps35
  go_wp2_with fail
  refine (HG.out).mono ?_
  rintro e w1 ⟨rfl, hI1, hB1⟩
  have hW0 : Below w.heap.size w w1 := ((Below.refl _ w).alloc (Nat.le_refl _) _).trans hB1
  have hI0 : Lib.IsBuilder 60 5 w.heap.size w.heap.size (Lib.byteCells ([] : List UInt8)) w1 := Or.inr hI1
  clear hI1 hB1
  go_wp2_with fail
  go_loopw [11] (fun i wr => ∃ (k : Nat) (L : List UInt8), k ≤ s.size ∧ i = .int .i64 k ∧ Lib.IsBuilder 60 5 w.heap.size w.heap.size (Lib.byteCells L) wr ∧ Hid (L.length = 2 * k ∧ textL s.data.toList = L ++ textL (s.data.toList.drop k)) ∧ Below w.heap.size w wr) (fun i _ => s.size - (intOf i).toNat)
  case atStart => exact ⟨0, [], Nat.zero_le _, rfl, hI0, ⟨rfl, rfl⟩, hW0⟩
  case round =>
    obtain ⟨k, L, hk, rfl, hI, HT, hW⟩ := hrel
    clear hI0 hW0
    by_cases hlt : k < s.size
    · have HI := Lib.hid hI
      clear hI
      go_wp2_with fail
      refine (writeHex_any w.heap.size w.heap.size L s[k] wr HI.out (by have := HT.out.1; omega) (HL.out.below hW)).mono ?_
      rintro e w2 ⟨rfl, hI2, hB2⟩
      have R := text_step s k L hlt HT.out
      go_wp2_with fail
      go_roundw
      case rel => exact ⟨k + 1, _, by omega, by go_num, hI2, R, hW.trans hB2⟩
      case measure => simp [intOf]; omega
    · have : k = s.size := by omega
      subst this
      have HL' : Hid (textL s.data.toList = L) := by
        have h := HT.out.2
        rw [List.drop_eq_nil_of_le (by rw [Array.length_toList]; exact Nat.le_refl _)] at h
        show textL s.data.toList = L
        rw [h]; simp [textL]
      go_wp2_with fail
      refine (string_any w.heap.size w.heap.size L wr hI hW.size).mono ?_
      rintro e w2 ⟨rfl, hB2⟩
      go_wp2_with fail
      go_ret
      exact ⟨by rw [HL'.out]; rfl, hW.trans hB2⟩
end Go.Proofs.YtepcpjppogcjbaaDoor
