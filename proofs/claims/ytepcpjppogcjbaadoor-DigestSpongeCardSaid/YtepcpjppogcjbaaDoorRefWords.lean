/-
  The contract of the document's own Words.
-/
import Derived.Test.YtepcpjppogcjbaaDoorWords
namespace Go.Proofs.YtepcpjppogcjbaaDoor
open Go.RowKit

/-- What the bytes from the high end make of a word, so many of them. -/
def pm (l : List UInt8) (k : Nat) : Nat → Nat
  | 0 => 0
  | m + 1 => pm l k m * 256 + (l.getD (4 * k + (3 - m)) 0).toNat
theorem pm_lt (l : List UInt8) (k m : Nat) : pm l k m < 256 ^ m := by
  induction m with
  | zero => exact Nat.one_pos
  | succ m ih =>
    have := (l.getD (4 * k + (3 - m)) 0).toNat_lt
    rw [Nat.pow_succ]
    show pm l k m * 256 + (l.getD (4 * k + (3 - m)) 0).toNat < _
    omega
theorem pm_four (l : List UInt8) (k : Nat) : ((pm l k 4 : Nat) : Int) = wAt l k := by
  simp only [pm, wAt, fw, Nat.sub_self, Nat.add_zero, Nat.sub_zero, show 3 - 2 = 1 from rfl, show 3 - 1 = 2 from rfl]
  omega

theorem refWords_form (s : ByteArray) (w : World) (hs : s.size ≤ maxLen) (h : s.size % 4 ≠ 0) :
    Calls Tryd.prog 31 #[.string s] w fun e w' => e = .returned (.tuple #[.slice none 0 0, .int .i64 7]) ∧ w = w' := by
  unfold maxLen at hs
  have h0 : ((s.size : Int) % 4 == 0) = false := by simp; omega
  have h1 : ((s.size : Int) % 4 != 0) = true := by simp; omega
  go_enter Tryd.func31, Tryd.ntmps31
  go_wp2
  go_ret2
  exact ⟨rfl, rfl⟩

set_option maxHeartbeats 1000000 in
set_option maxRecDepth 100000 in
theorem refWords_ok (s : ByteArray) (w : World) (hs : s.size ≤ 1000000) (h : s.size % 4 = 0) :
    Calls Tryd.prog 31 #[.string s] w fun e w' => ∃ v, e = .returned (.tuple #[v, .int .i64 0]) ∧ OwnsW w.heap.size v (wordsR s.data.toList) w' ∧ Below w.heap.size w w' := by
  obtain ⟨i0, hi, hz0, hz1, hz2⟩ := info_parts info_u32
  obtain ⟨n, hn⟩ : ∃ n : Nat, s.size = 4 * n := ⟨s.size / 4, by omega⟩
  have h0 : ((s.size : Int) % 4 == 0) = true := by simp; omega
  have h1 : ((s.size : Int) % 4 != 0) = false := by simp; omega
  have hq : (s.size : Int) / 4 = (n : Int) := by omega
  have hn1 : n ≤ 250000 := by omega
  have HN := Lib.hid hn
  clear hn h
  go_enter Tryd.func31, Tryd.ntmps31
  go_wp2_with (at_make; refine wpList_make_own _ rfl _ _ 49 rfl w.heap.size 22 i0 (.int .u32 0) 1 Tryd.underlying49 hi hz0 hz1 .i64 .i64 _ n rfl rfl rfl (by rw [hz2]; omega) (by unfold maxLen; omega) (Nat.le_refl _) ?_; intro w1 hown hg)
  have hW : Below w.heap.size w w1 := (Below.refl _ _).grown hg (Nat.le_refl _) (fun k hk => by cases hk)
  clear hg h0 h1 hq
  go_loopw [4, 5] (fun v i wr => ∃ k : Nat, k ≤ n ∧ i = .int .i64 (4 * (k : Int)) ∧ wr.ownsRow w.heap.size 22 1 v k (wCells ((wordsR s.data.toList).take k)) ∧ Below w.heap.size w wr) (fun _ i _ => 4 * n - (intOf i).toNat)
  case atStart => exact ⟨0, Nat.zero_le _, rfl, hown, hW⟩
  case round =>
    clear hown hW
    obtain ⟨k, hk, rfl, hownr, hW⟩ := hrel
    by_cases hlt : k < n
    · have hsz : 4 * k + 4 ≤ s.size := by have := HN.out; omega
      have hdt : decide (4 * (k : Int) < (s.size : Int)) = true := by simp; omega
      go_wp2
      clear hdt
      go_loop [6, 7] (fun v i => ∃ (j : Nat) (y : Int), j ≤ 4 ∧ i = .int .i64 ((j : Int) - 1) ∧ v = .int .u32 y ∧ 0 ≤ y ∧ y < 4294967296 ∧ Hid (y = ((pm s.data.toList k (4 - j) : Nat) : Int))) (fun _ i => (intOf i + 1).toNat)
      case atStart => exact ⟨4, 0, by omega, rfl, rfl, by omega, by omega, Lib.hid rfl⟩
      case round =>
        obtain ⟨j, y, hj, rfl, rfl, hy0, hy1, HY⟩ := hrel
        cases j with
        | zero =>
          have hyw : Hid (y = wAt s.data.toList k) := HY.out.trans (pm_four _ _)
          go_wp2_with (at_builtin; refine wpList_append_own _ rfl _ _ 49 rfl w.heap.size 22 i0 (.int .u32 0) 1 4 Tryd.underlying49 hi hz0 hz1 hz2 rfl (by decide) _ _ _ rfl (hownr.alloc _) ⟨wr.heap.size, 0, none⟩ 1 1 [.int .u32 y] rfl rfl ?c1 ?c2 ?c3 ?c4 ?c5 ?_)
          case c2 => rfl
          case c3 => unfold maxLen; omega
          case c4 => omega
          case c5 => have := hW.size; omega
          intro v' w2 hown' hgrow _
          have hV : Below w.heap.size w w2 := (hW.alloc hW.size _).grown hgrow (by have := hW.size; simp; omega) (fun k hk => (hownr.lt k hk).1)
          have hl : s.data.toList.length / 4 = n := by rw [len_toList]; have := HN.out; omega
          rw [show wCells ((wordsR s.data.toList).take k) ++ [.int .u32 y] = wCells ((wordsR s.data.toList).take (k + 1)) by rw [wordsR_take _ k (by omega), hyw.out]; simp [wCells]] at hown'
          clear hgrow hownr hW hl
          go_wp2
          go_roundw
          case rel => exact ⟨k + 1, by omega, by go_num, hown', hV⟩
          case measure => simp [intOf]; omega
        | succ j =>
          have hjj : ((j + 1 : Nat) : Int) - 1 = (j : Int) := by omega
          have hix : 4 * k + j < s.size := by omega
          have hb := (s[4 * k + j]).toNat_lt
          have hstep : Hid (y * 256 + ((s[4 * k + j]).toNat : Int) = ((pm s.data.toList k (4 - j) : Nat) : Int)) := by
            show y * 256 + ((s[4 * k + j]).toNat : Int) = _
            rw [HY.out, show 4 - j = (4 - (j + 1)) + 1 by omega]
            show _ = ((pm s.data.toList k (4 - (j + 1)) * 256 + (s.data.toList.getD (4 * k + (3 - (4 - (j + 1)))) 0).toNat : Nat) : Int)
            rw [show 4 * k + (3 - (4 - (j + 1))) = 4 * k + j by omega, getD_at s _ hix]
            omega
          have hy2 : y * 256 + ((s[4 * k + j]).toNat : Int) < 4294967296 := by
            rw [hstep.out]
            have h1 := pm_lt s.data.toList k (4 - j)
            have h2 : 256 ^ (4 - j) ≤ 256 ^ 4 := Nat.pow_le_pow_right (by decide) (by omega)
            have h3 : 256 ^ 4 = 4294967296 := by decide
            omega
          go_wp2
          go_round
          case rel => exact ⟨j, _, by omega, rfl, rfl, by omega, hy2, hstep⟩
          case measure => simp [intOf]
    · have : k = n := by omega
      subst this
      have hdf : decide (4 * (k : Int) < (s.size : Int)) = false := by have := HN.out; simp; omega
      have hge : (s.size : Int) ≤ 4 * (k : Int) := by have := HN.out; omega
      go_wp2
      go_ret2
      have hl : s.data.toList.length / 4 = k := by rw [len_toList]; have := HN.out; omega
      refine ⟨_, rfl, ?_, hW⟩
      have ht := List.take_of_length_le (l := wordsR s.data.toList) (i := k) (by rw [wordsR_length, hl]; exact Nat.le_refl _)
      rw [ht] at hownr
      unfold OwnsW
      rw [wordsR_length, hl]
      exact hownr
end Go.Proofs.YtepcpjppogcjbaaDoor
