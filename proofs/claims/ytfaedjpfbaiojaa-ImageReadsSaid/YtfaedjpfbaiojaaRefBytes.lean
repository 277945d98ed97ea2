/-
  The contract of the document's own Bytes.
-/
import Derived.Test.YtfaedjpfbaiojaaBase
import Derived.Test.YtfaedjpfbaiojaaBytes
import Derived.Test.YtfaedjpfbaiojaaFour
import Derived.OwnWalk
import Derived.Lib.IndexBytes
import Derived.Laws.IdiomStrings
namespace Go.Proofs.Ytfaedjpfbaiojaa
open Go.RowKit

theorem info_u8 : (Try.prog.info? 5).map (fun i => (i.zero, i.size, i.bytes)) = some (some (.int .u8 0), 1, 1) := by kernel_rfl
/-- A row of bytes that the call owns, not nil. -/
def OwnsB (B : Nat) (v : Value) (l : List UInt8) (w : World) : Prop := v ≠ .slice none 0 0 ∧ w.ownsRow B 5 1 v l.length (Lib.byteCells l)
/-- What such a row reads as, as a string. -/
theorem ownsB_string {B : Nat} {v : Value} {l : List UInt8} {w : World} (h : OwnsB B v l w) : (convert 48 9 v).run Try.prog w = .ok (.string ⟨l.toArray⟩) w := by
  obtain ⟨hne, hown⟩ := h
  rcases hown.2 with ⟨h', _⟩ | ⟨g, cap, cur, rfl, _⟩
  · exact absurd h' hne
  · exact run_convert_bytes_back (P := Try.prog) w 48 9 5 ⟨g, 0, none⟩ cap l Try.underlying48 Try.underlying5 Try.underlying9 (fun j hj => by
      refine hown.cells rfl j _ ?_
      simp [Lib.byteCells, List.getElem?_eq_getElem hj])
theorem ownsB_step {B : Nat} {v : Value} {L : List UInt8} {x y : Int} {j : Nat} {w : World} (hx : 0 ≤ x) (hy : y = x / 256 ^ j) (hne : v ≠ .slice none 0 0)
    (h : w.ownsRow B 5 1 v ((L ++ w4n x.toNat j).length + 1) (Lib.byteCells (L ++ w4n x.toNat j) ++ [.int .u8 (y % 256)])) : OwnsB B v (L ++ w4n x.toNat (j + 1)) w := by
  rw [pack_step L x y j hx hy] at h
  refine ⟨hne, ?_⟩
  have e : (L ++ w4n x.toNat j).length + 1 = (L ++ w4n x.toNat (j + 1)).length := by
    rw [List.length_append, List.length_append, w4n_length, w4n_length]; omega
  rw [← e]; exact h
theorem pack_len (xs : List Int) (k x j : Nat) (hk : k ≤ xs.length) : (wbytes (xs.take k) ++ w4n x j).length = 4 * k + j := by
  rw [List.length_append, wbytes_length, w4n_length, List.length_take]; omega

set_option maxHeartbeats 1000000 in
set_option maxRecDepth 100000 in
theorem refBytes_any (p : Option Addr) (xs : List Int) (cap : Nat) (w : World) (hn : xs.length ≤ 1000000)
    (hx : ∀ (k : Nat) (h : k < xs.length), 0 ≤ xs[k] ∧ xs[k] < 4294967296)
    (hp : xs.length ≠ 0 → ∃ bk o, p = some ⟨bk, o, none⟩ ∧ bk < w.heap.size ∧ ∀ (k : Nat) (h : k < xs.length), w.cell? ⟨bk, o + k, none⟩ = some (.int .u32 xs[k])) :
    Calls Try.prog 21 #[.slice p xs.length cap] w fun e w' => e = .returned (.string ⟨(wbytes xs).toArray⟩) ∧ Below w.heap.size w w' := by
  have HP := Lib.hid hp
  have HX := Lib.hid hx
  clear hp hx
  obtain ⟨i0, hi, hz0, hz1, hz2⟩ := info_parts info_u8
  go_enter Try.func21, Try.ntmps21
  go_wp2_with (at_make; refine wpList_make_own _ rfl _ _ 48 rfl w.heap.size 5 i0 (.int .u8 0) 1 Try.underlying48 hi hz0 hz1 .i64 .i64 _ (4 * xs.length) rfl rfl (by simp) (by rw [hz2]; omega) (by unfold maxLen; omega) (Nat.le_refl _) ?_; intro w1 hown hg)
  have hW0 : Below w.heap.size w w1 := (Below.refl _ _).grown hg (Nat.le_refl _) (fun k hk => by cases hk)
  have hI0 : OwnsB w.heap.size (.slice (some ⟨w.heap.size, 0, none⟩) 0 (4 * xs.length)) [] w1 := ⟨by simp, hown⟩
  clear hg hown
  go_loopw [3, 4] (fun v i wr => ∃ k : Nat, k ≤ xs.length ∧ i = .int .i64 k ∧ OwnsB w.heap.size v (wbytes (xs.take k)) wr ∧ Below w.heap.size w wr) (fun _ i _ => xs.length - (intOf i).toNat)
  case atStart => exact ⟨0, Nat.zero_le _, rfl, hI0, hW0⟩
  case round =>
    clear hI0 hW0
    obtain ⟨k, hk, rfl, hI, hW⟩ := hrel
    by_cases hlt : k < xs.length
    · obtain ⟨bk, o, rfl, hbk, hc⟩ := HP.out (by omega)
      have hx := HX.out k hlt
      have hcell := hc k hlt
      rw [← hW.cell (p := ⟨bk, o + k, none⟩) hbk] at hcell
      have HT := Lib.hid (take_snocI xs k hlt)
      clear hc
      obtain ⟨x, hx0⟩ : ∃ x : Int, x = xs[k] := ⟨_, rfl⟩
      rw [← hx0] at hx hcell
      have HX0 := Lib.hid hx0
      clear hx0
      go_wp2
      obtain ⟨wo, rfl⟩ : ∃ wo : World, wo = wr := ⟨_, rfl⟩
      go_loopw [3, 5, 6] (fun v q i wr => ∃ (j : Nat) (y : Int), j ≤ 4 ∧ i = .int .i64 j ∧ q = .int .u32 y ∧ 0 ≤ y ∧ y < 4294967296 ∧ Hid (y = x / 256 ^ j) ∧ OwnsB w.heap.size v (wbytes (xs.take k) ++ w4n x.toNat j) wr ∧ Below w.heap.size w wr) (fun _ _ i _ => 4 - (intOf i).toNat)
      case atStart => exact ⟨0, x, by omega, rfl, rfl, hx.1, hx.2, by simp [Hid], by simpa [w4n] using hI, hW⟩
      case round =>
        clear hI hW hcell
        obtain ⟨j, y, hj, rfl, rfl, hy0, hy1, HY, hJ, hV⟩ := hrel
        have hL := pack_len xs k x.toNat j (by omega)
        have HL := Lib.hid hL
        clear hL
        by_cases hj4 : j < 4
        · have hown := hJ.2
          go_wp2_with (at_builtin; refine wpList_append_own _ rfl _ _ 48 rfl w.heap.size 5 i0 (.int .u8 0) 1 1 Try.underlying48 hi hz0 hz1 hz2 rfl (by decide) _ _ _ rfl (hown.alloc _) ⟨wr.heap.size, 0, none⟩ 1 1 [.int .u8 (y % 256)] rfl rfl ?c1 ?c2 ?c3 ?c4 ?c5 ?_)
          case c1 =>
            intro t u hu
            match t, hu with
            | 0, hu => simp at hu; subst hu; simp [Addr.add]
          case c2 => intro u hu; simp at hu; subst hu; rfl
          case c3 => rw [HL.out]; unfold maxLen; omega
          case c4 => rw [HL.out]; omega
          case c5 => have := hV.size; simp; omega
          intro v' w2 hown' hgrow hne
          have hV1 : Below w.heap.size w w2 := (hV.alloc hV.size _).grown hgrow (by have := hV.size; simp; omega) (fun k hk => (hown.lt k hk).1)
          rw [← List.length_append] at hown'
          have hJ1 := ownsB_step hx.1 HY.out hne hown'
          clear hgrow hown hown' hJ hV hne
          go_wp2
          go_roundw
          case rel => exact ⟨j + 1, y / 256, by omega, by go_num, rfl, by omega, by omega, by rw [HY.out]; exact div_step x j hx.1, hJ1, hV1⟩
          case measure => simp [intOf]; omega
        · go_wp2
          go_roundw
          case rel =>
            have : j = 4 := by omega
            subst this
            rw [show wbytes (xs.take k) ++ w4n x.toNat 4 = wbytes (xs.take (k + 1)) by rw [HT.out, wbytes_snoc, ← HX0.out]; rfl] at hJ
            exact ⟨k + 1, by omega, by go_num, hJ, hV⟩
          case measure => simp [intOf]; omega
    · have : k = xs.length := by omega
      subst this
      rw [List.take_length] at hI
      have hcv := ownsB_string hI
      go_wp2
      go_ret
      exact ⟨rfl, hW⟩
end Go.Proofs.Ytfaedjpfbaiojaa
