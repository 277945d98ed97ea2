/-
  The contract of Words: bytes as words, four each; none, and the error, of bytes that are no whole words.
-/
import Derived.Test.YtfaedjpfbaiojaaImB
import Derived.Test.YtfaedjpfbaiojaaFirst
import Derived.OwnWalk
import Derived.Lib.IndexBytes
namespace Go.Proofs.Ytfaedjpfbaiojaa
open Go.RowKit

theorem words_form (s : ByteArray) (w : World) (hs : s.size ≤ maxLen) (h : s.size % 4 ≠ 0) :
    Calls Try.prog 31 #[.string s] w fun e w' => e = .returned (.tuple #[.slice none 0 0, .int .i64 7]) ∧ w = w' := by
  unfold maxLen at hs
  have h0 : ((s.size : Int) % 4 == 0) = false := by simp; omega
  have h1 : ((s.size : Int) % 4 != 0) = true := by simp; omega
  go_enter Try.func31, Try.ntmps31
  go_wp2
  go_ret2
  exact ⟨rfl, rfl⟩

set_option maxHeartbeats 1000000 in
set_option maxRecDepth 100000 in
theorem words_ok (s : ByteArray) (w : World) (hs : s.size ≤ 1000000) (h : s.size % 4 = 0) :
    Calls Try.prog 31 #[.string s] w fun e w' => ∃ v, e = .returned (.tuple #[v, .int .i64 0]) ∧ OwnsW w.heap.size v (wordsR s.data.toList) w' ∧ Below w.heap.size w w' := by
  obtain ⟨i0, hi, hz0, hz1, hz2⟩ := info_parts info_u32
  obtain ⟨n, hn⟩ : ∃ n : Nat, s.size = 4 * n := ⟨s.size / 4, by omega⟩
  have h0 : ((s.size : Int) % 4 == 0) = true := by simp; omega
  have h1 : ((s.size : Int) % 4 != 0) = false := by simp; omega
  have hq : (s.size : Int) / 4 = (n : Int) := by omega
  have hn1 : n ≤ 250000 := by omega
  have HN := Lib.hid hn
  clear hn h
  go_enter Try.func31, Try.ntmps31
  go_wp2_with (at_make; refine wpList_make_full _ rfl _ _ 22 rfl w.heap.size 35 i0 (.int .u32 0) 1 Try.underlying22 hi hz0 hz1 .i64 .i64 _ _ n rfl rfl rfl rfl (by rw [hz2]; omega) (by unfold maxLen; omega) (Nat.le_refl _) ?_; intro w1 hown hg)
  have hW : Below w.heap.size w w1 := (Below.refl _ _).grown hg (Nat.le_refl _) (fun k hk => by cases hk)
  have hz : (madeCells (Value.int IntKind.u32 0).cells (n * 1)).toList = rowU n (doneF (wAt s.data.toList) 0) := by
    show (madeCells #[Value.int IntKind.u32 0] (n * 1)).toList = _
    rw [toList_madeCells_one, Nat.mul_one]
    symm
    rw [List.eq_replicate_iff]
    refine ⟨rowU_length _ _, fun u hu => ?_⟩
    unfold rowU at hu
    obtain ⟨t, _, ht⟩ := List.mem_map.mp hu
    rw [← ht]; simp [doneF]
  rw [hz] at hown
  clear hz hg
  go_loopw [16] (fun i wr => ∃ k : Nat, k ≤ n ∧ i = .int .i64 k ∧ wr.ownsRow w.heap.size 35 1 (.slice (some ⟨w.heap.size, 0, none⟩) n n) n (rowU n (doneF (wAt s.data.toList) k)) ∧ Below w.heap.size w wr) (fun i _ => n - (intOf i).toNat)
  case atStart => exact ⟨0, Nat.zero_le _, rfl, hown, hW⟩
  case round =>
    obtain ⟨k, hk, rfl, hown, hW⟩ := hrel
    by_cases hlt : k < n
    · have hsz : 4 * k + 4 ≤ s.size := by have := HN.out; omega
      have c0 : wr.cell? ⟨w.heap.size, k, none⟩ = some (.int .u32 (doneF (wAt s.data.toList) k k)) := by
        rw [hown.cellAt k (by omega), rowU_at n _ k hlt]
      have f0 := hown.frozenAt k
      have HE : Hid (wAt (s.extract (4 * k) s.size).data.toList 0 = wAt s.data.toList k) := by
        show wAt (s.extract (4 * k) s.size).data.toList 0 = _
        rw [Lib.extract_to_end, wAt_drop]
      have he : (s.extract (4 * k) s.size).size = s.size - 4 * k := by simp
      have HS1 := Lib.hid (show (s.extract (4 * k) s.size).size ≤ maxLen by rw [he]; unfold maxLen; omega)
      have HS2 := Lib.hid (show 4 ≤ (s.extract (4 * k) s.size).size by rw [he]; omega)
      clear he
      go_wp2_with fail
      refine (first_any (s.extract (4 * k) s.size) wr HS1.out HS2.out).mono ?_
      rw [HE.out]
      rintro e w2 ⟨rfl, nq, rfl⟩
      go_wp2
      go_roundw
      case rel =>
        have h : (wr.drewN nq).ownsRow w.heap.size 35 1 (.slice (some ⟨w.heap.size, 0, none⟩) n n) n (rowU n (doneF (wAt s.data.toList) k)) := hown
        refine ⟨k + 1, by omega, by go_num, ?_, (below_drewN hW nq).setCell (p := ⟨w.heap.size, k, none⟩) (Nat.le_refl _) _⟩
        rw [← doneF_step]
        exact (h.stored k _).1
      case measure => simp [intOf]; omega
    · have : k = n := by omega
      subst this
      go_wp2
      go_ret2
      have hl : s.data.toList.length / 4 = k := by rw [len_toList]; have := HN.out; omega
      refine ⟨_, rfl, ?_, hW⟩
      unfold OwnsW wCells
      rw [wordsR_length, hl, ← rowU_words _ k hl]
      exact hown
end Go.Proofs.Ytfaedjpfbaiojaa
