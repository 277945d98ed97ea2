/-
  The contract of Bytes: of any words that lie in memory, their bytes, one behind the other.
-/
import Derived.Test.YtfaedjpfbaiojaaShA
import Derived.Test.YtfaedjpfbaiojaaPack
import Derived.WalkKit
import Derived.BigQuiet
import Derived.Outline
import Derived.Lib.Hide
namespace Go.Proofs.Ytfaedjpfbaiojaa
open Go.RowKit

theorem grow_int (m : Int) (b : Nat) (w : World) (hbk : w.heap[b]? = some (.cells #[.pointer none, .slice none 0 0] 50 (0, 0))) (hBw : b ≤ w.heap.size) (h0 : 0 ≤ m) (hm : m ≤ 281474976710656) :
    Calls Try.prog 26 #[.pointer (some ⟨b, 0, none⟩), .int .i64 m] w fun e w' => e = .returned (.tuple #[]) ∧ (Lib.BuilderAt 50 5 b b (.pointer (some ⟨b, 0, none⟩)) [] w' ∧ Below b w w') := by
  obtain ⟨n, rfl⟩ := Int.eq_ofNat_of_zero_le h0
  exact grow_any b b n w (Nat.le_refl _) hbk hBw (by omega)

set_option maxHeartbeats 1000000 in
set_option maxRecDepth 100000 in
theorem bytes_any (p : Option Addr) (xs : List Int) (cap : Nat) (w : World) (hn : xs.length ≤ 1000000)
    (hx : ∀ (k : Nat) (h : k < xs.length), 0 ≤ xs[k] ∧ xs[k] < 4294967296)
    (hp : xs.length ≠ 0 → ∃ bk o, p = some ⟨bk, o, none⟩ ∧ bk < w.heap.size ∧ ∀ (k : Nat) (h : k < xs.length), w.cell? ⟨bk, o + k, none⟩ = some (.int .u32 xs[k])) :
    Calls Try.prog 20 #[.slice p xs.length cap] w fun e w' => e = .returned (.string ⟨(wbytes xs).toArray⟩) ∧ Below w.heap.size w w' := by
  have HP := Lib.hid hp
  have HX := Lib.hid hx
  clear hp hx
  have hb0 : (w.alloc (.cells #[.pointer none, .slice none 0 0] 50)).heap[w.heap.size]? = some (.cells #[.pointer none, .slice none 0 0] 50 (0, 0)) := by
    show (w.heap.push _)[w.heap.size]? = _
    simp
  have HG := Lib.hid (grow_int (4 * (xs.length : Int)) (w.heap.size) (w.alloc (.cells #[.pointer none, .slice none 0 0] 50)) hb0 (by simp) (by omega) (by omega))
  clear hb0
  go_enter Try.func20, Try.ntmps20
  go_wp2_with (go_at_call 26; refine (HG.out).mono ?_; rintro e w1 ⟨rfl, hI1, hB1⟩)
  have hW0 : Below w.heap.size w w1 := ((Below.refl _ w).alloc (Nat.le_refl _) _).trans hB1
  have hI0 : Lib.IsBuilder 50 5 w.heap.size w.heap.size [] w1 := Or.inr hI1
  clear hI1 hB1
  go_loopw [12] (fun i wr => ∃ k : Nat, k ≤ xs.length ∧ i = .int .i64 k ∧ Lib.IsBuilder 50 5 w.heap.size w.heap.size (Lib.byteCells (wbytes (xs.take k))) wr ∧ Below w.heap.size w wr) (fun i _ => xs.length - (intOf i).toNat)
  case atStart => exact ⟨0, Nat.zero_le _, rfl, hI0, hW0⟩
  case round =>
    obtain ⟨k, hk, rfl, hI, hW⟩ := hrel
    clear hI0 hW0
    by_cases hlt : k < xs.length
    · obtain ⟨bk, o, rfl, hbk, hc⟩ := HP.out (by omega)
      have hx := HX.out k hlt
      have hcell := hc k hlt
      rw [← hW.cell (p := ⟨bk, o + k, none⟩) hbk] at hcell
      have HT := Lib.hid (take_snocI xs k hlt)
      clear hc
      obtain ⟨x, hx0⟩ : ∃ x : Int, x = xs[k] := ⟨_, rfl⟩
      rw [← hx0] at hx hcell
      have HX0 := Lib.hid hx0
      clear hx0
      go_wp2
      obtain ⟨wo, rfl⟩ : ∃ wo : World, wo = wr := ⟨_, rfl⟩
      go_loopw [5, 16] (fun v i wr => ∃ (j : Nat) (y : Int), j ≤ 4 ∧ i = .int .i64 j ∧ v = .int .u32 y ∧ 0 ≤ y ∧ y < 4294967296 ∧ Hid (y = x / 256 ^ j) ∧ Lib.IsBuilder 50 5 w.heap.size w.heap.size (Lib.byteCells (wbytes (xs.take k) ++ w4n x.toNat j)) wr ∧ Below w.heap.size w wr) (fun _ i _ => 4 - (intOf i).toNat)
      case atStart => exact ⟨0, x, by omega, rfl, rfl, hx.1, hx.2, by simp [Hid], by simpa [w4n] using hI, hW⟩
      case round =>
        obtain ⟨j, y, hj, rfl, rfl, hy0, hy1, HY, hJ, hV⟩ := hrel
        clear hI hW hcell
        have hL := Lib.hid (pack_length xs k x.toNat j (by omega))
        by_cases hj4 : j < 4
        · go_wp2_with (go_at_call 27; refine (writeByte_any w.heap.size w.heap.size (Lib.byteCells (wbytes (xs.take k) ++ w4n x.toNat j)) _ wr hJ (by rw [hL.out]; omega) hV.size).mono ?_; rintro e w2 ⟨rfl, hI2, hB2⟩)
          go_roundw
          case rel =>
            rw [pack_step _ x y j hx.1 HY.out] at hI2
            exact ⟨j + 1, y / 256, by omega, by go_num, rfl, by omega, by omega, by rw [HY.out]; exact div_step x j hx.1, Or.inr hI2, hV.trans hB2⟩
          case measure => simp [intOf]; omega
        · go_wp2
          go_roundw
          case rel =>
            have : j = 4 := by omega
            subst this
            rw [show wbytes (xs.take k) ++ w4n x.toNat 4 = wbytes (xs.take (k + 1)) by rw [HT.out, wbytes_snoc, ← HX0.out]; rfl] at hJ
            exact ⟨k + 1, by omega, by go_num, hJ, hV⟩
          case measure => simp [intOf]; omega
    · have : k = xs.length := by omega
      subst this
      rw [List.take_length] at hI
      go_wp2_with (go_at_call 28; refine (string_any w.heap.size w.heap.size (wbytes xs) wr hI hW.size).mono ?_; rintro e w2 ⟨rfl, hB2⟩)
      go_ret
      exact ⟨rfl, hW.trans hB2⟩
end Go.Proofs.Ytfaedjpfbaiojaa
