/-
  The code's iterator over a text's words: its contract; what it calls.
-/
import Derived.RangeFuncNested
import Derived.RangeFuncBound
import Derived.RangeFuncCalls
import Derived.RangeFuncLeaves
import Derived.RangeFuncBox
import Derived.Shelf.Abstract
import Derived.Shelf.RegionOpen
import Derived.WalkKit
import Derived.OwnWalkIn
import Derived.TacticsInMore
import Derived.LoopNIn
import Derived.LoopIn
import Derived.Maps.AppendAt
import Derived.Test.YtfaedjpfbaiojaaImM
import Derived.Test.YtfaedjpfbaiojaaImK1
namespace Go.Proofs.Ytfaedjpfbaiojaa
open Go.RowKit Go.Shelf

attribute [local go_sem] Oper.semAt_some

/-- A word read of its four bytes. -/
theorem cwords_one (t : ByteArray) (x : Int) (w : World) (ht : t.size = 4) (hx : wAt t.data.toList 0 = x) :
    Calls Try.prog 31 #[.string t] w fun e w' => ∃ b c, e = .returned (.tuple #[.slice (some ⟨b, 0, none⟩) 1 c, .int .i64 0]) ∧ w'.cell? ⟨b, 0, none⟩ = some (.int .u32 x) ∧ Below w.heap.size w w' := by
  refine (words_ok t w (by omega) (by omega)).mono ?_
  rintro e w' ⟨v, rfl, hO, hB⟩
  have hl : (wordsR t.data.toList).length = 1 := by rw [wordsR_length, len_toList, ht]
  have h0 : (wordsR t.data.toList)[0]? = some x := by rw [← hx]; exact wordsR_at _ 0 (by rw [len_toList, ht]; omega)
  unfold OwnsW at hO
  rcases hO.2 with ⟨_, hn⟩ | ⟨g, cap, cur, rfl, hb, hg, _⟩
  · omega
  · have hc := hO.cells (g := g) rfl 0 (.int .u32 x) (by simp [wCells, h0])
    rw [Lib.add_plain] at hc
    rw [hl]
    exact ⟨g, cap, rfl, hc, hB⟩
set_option maxHeartbeats 1000000 in
theorem words_in (n : Nat) (s : ByteArray) (w : World) :
    CallsIn Fence.wide n Try.prog 24 #[.string s] w fun e w' => e = .returned (.func (.func 30) #[] #[.pointer (some ⟨w.heap.size, 0, none⟩)]) ∧ w' = w.alloc (.cells #[.string s] 9) := by
  refine callsIn_of_wp Try.func24 rfl trivial ?_ rfl
  simp only [Try.ntmps24, List.size_toArray, List.length_cons, List.length_nil, Nat.reduceAdd, Nat.reduceSub, Array.replicate_succ, Array.replicate_zero, List.push_toArray, List.append_toArray, List.nil_append, List.cons_append]
  gi_wp2
  go_ret
  exact ⟨rfl, rfl⟩
/-- A round keeps what stands in a cell. -/
def CellK (b : Nat) (W W' : World) : Prop := ∀ v, W.cell? ⟨b, 0, none⟩ = some v → W'.cell? ⟨b, 0, none⟩ = some v
theorem cellK_t {b : Nat} {A B C : World} (h : CellK b A B) (h' : CellK b B C) : CellK b A C := fun v hv => h' v (h v hv)
theorem cellK_put {b : Nat} (W : World) (l : Nat) (o o' : Obj) (hl : W.heap[l]? = some o) (ho : o.isCells = false) : CellK b W (W.putObj l o') := fun v hv =>
  cell_kept hv (grownBy_putObj' W l o') (fun r e => by cases e; exact ⟨o, hl, ho⟩)
theorem grown_below {W W' : World} (h : Below W.heap.size W W') : W.grownBy W' none := ⟨h.os, h.tape, h.output, h.size, fun k hk _ => h.block k hk⟩
theorem below_sz {W W' : World} (h : Below W.heap.size W W') {b : Nat} (hb : b < W.heap.size) {v : Value} (hc : W.cell? ⟨b, 0, none⟩ = some v) : W'.cell? ⟨b, 0, none⟩ = some v := (h.cell (p := ⟨b, 0, none⟩) hb).trans hc
theorem cell_lt {W : World} {b : Nat} {v : Value} (h : W.cell? ⟨b, 0, none⟩ = some v) : b < W.heap.size := by
  obtain ⟨o, ho, _⟩ := cells_of_cell h
  exact (Array.getElem?_eq_some_iff.1 ho).1
/-- What the iterator hands over: a place, and the word there. -/
def encW (s : ByteArray) (m : Nat) (k : Fin m) : Array Value := #[.int .i64 (k.1 : Int), .int .u32 (wAt s.data.toList k.1)]
set_option maxRecDepth 100000 in
set_option maxHeartbeats 2000000 in
theorem words1_in (n : Nat) (hn : 1 ≤ n) (l Bn B m : Nat) (s : ByteArray) (J Jx : List (Fin m) → World → Prop) (hJ : AbidesFrom B J) (hs : s.size = 4 * m) (hm4 : m ≤ 250000)
    (hY : ∀ pre x W, J pre W → pre.length < m → YieldAt Fence.wide (n - 1) Try.prog l (encW s m x) W fun e W' =>
      (e = .returned (.bool true) ∧ J (pre ++ [x]) W' ∧ CellK Bn W W') ∨ (e = .returned (.bool false) ∧ Jx (pre ++ [x]) W'))
    (W : World) (hBn : W.cell? ⟨Bn, 0, none⟩ = some (.string s)) (h0 : J [] W) :
    CallsIn Fence.wide n Try.prog 30 #[.func (.yield l) #[] #[], .pointer (some ⟨Bn, 0, none⟩)] W fun e W' => (∃ v, e = .returned v) ∧
      ((∃ ys, (∀ k, k ∈ ys) ∧ J ys W') ∨ (∃ pre, True ∧ Jx pre W')) := by
  have HS := Lib.hid hs
  have hq : (s.size : Int) / 4 = (m : Int) := by omega
  clear hs
  refine callsIn_of_wp Try.func30 rfl trivial ?_ rfl
  simp only [Try.ntmps30, List.size_toArray, List.length_cons, List.length_nil, Nat.reduceAdd, Nat.reduceSub, Array.replicate_succ, Array.replicate_zero, List.push_toArray, List.append_toArray, List.nil_append, List.cons_append]
  gi_wp2
  gi_loopw [9] (fun p wr => ∃ k : Nat, k ≤ m ∧ p = .int .i64 (k : Int) ∧ (∃ pre : List (Fin m), J pre wr ∧ pre.length = k ∧ ∀ j : Fin m, j.1 < k → j ∈ pre) ∧ wr.cell? ⟨Bn, 0, none⟩ = some (.string s)) (fun p _ => m - (intOf p).toNat)
  case atStart => exact ⟨0, Nat.zero_le _, rfl, ⟨[], h0, rfl, fun j hj => by omega⟩, hBn⟩
  case round =>
    obtain ⟨k, hk, rfl, ⟨pre, hJs, hpl, hpm⟩, hc⟩ := hrel
    by_cases hlt : k < m
    · have hkd : decide ((k : Int) < (m : Int)) = true := decide_eq_true (by omega)
      have hk0 : (0 : Int) ≤ (k : Int) * 4 := by omega
      have hk1 : (k : Int) * 4 ≤ (s.size : Int) := by have := HS.out; omega
      have he : ((s.extract (k * 4) s.size).extract 0 4).size = 4 := by have := HS.out; simp; omega
      have hx : wAt ((s.extract (k * 4) s.size).extract 0 4).data.toList 0 = wAt s.data.toList k := by
        have h1 : wAt ((s.extract (k * 4) s.size).extract 0 4).data.toList 0 = wAt (s.extract (k * 4) s.size).data.toList 0 := by
          unfold wAt
          have hl : ∀ j, j < 4 → ((s.extract (k * 4) s.size).extract 0 4).data.toList.getD j 0 = (s.extract (k * 4) s.size).data.toList.getD j 0 := fun j hj => by
            have h2 : j < min (k * 4 + 4) s.size - k * 4 := by have := HS.out; omega
            have h3 : j < s.size - k * 4 := by have := HS.out; omega
            simp [List.getD, h2, h3]
          rw [hl _ (by omega), hl _ (by omega), hl _ (by omega), hl _ (by omega)]
        rw [h1, Lib.extract_to_end, Nat.mul_comm, wAt_drop]
      have HC := Lib.hid (fun (w : World) => cwords_one _ _ w he hx)
      clear he hx
      gi_wp2
      refine ⟨trivial, ?_⟩
      refine (callsIn_wide.2 (HC.out wr)).mono ?_
      rintro e w2 ⟨b, c, rfl, hcl, hB2⟩
      have hJ2 : J pre w2 := hJ _ _ _ none hJs (grown_below hB2) (fun r e => by cases e)
      have hc2 : w2.cell? ⟨Bn, 0, none⟩ = some (.string s) := below_sz hB2 (cell_lt hc) hc
      obtain ⟨fn, tmps, assign, body, hy, hR⟩ := hY pre ⟨k, hlt⟩ w2 hJ2 (by omega)
      simp only [encW] at hy
      gi_wp2
      trace_state
      refine hR.mono ?_
      rintro e W3 (⟨rfl, hJ3, hk3⟩ | ⟨rfl, hJx3⟩)
      · have hc3 : W3.cell? ⟨Bn, 0, none⟩ = some (.string s) := hk3 _ hc2
        gi_wp2
        go_roundw
        case rel =>
          refine ⟨k + 1, by omega, by go_num, ⟨_, hJ3, by simp [hpl], fun j hj => ?_⟩, hc3⟩
          rcases Nat.lt_or_ge j.1 k with q | q
          · exact List.mem_append_left _ (hpm j q)
          · have : j = ⟨k, hlt⟩ := Fin.ext (by show j.1 = k; omega)
            rw [this]; simp
        case measure => simp [intOf]; omega
      · gi_wp2
        refine bodyPost_ret (results_none rfl _ _ _) rfl ?_
        exact ⟨⟨_, rfl⟩, .inr ⟨_, trivial, hJx3⟩⟩
    · have hkm : k = m := by omega
      subst hkm
      have hkd : decide ((k : Int) < (k : Int)) = false := decide_eq_false (by omega)
      gi_wp2
      go_end0
      exact ⟨⟨_, rfl⟩, .inl ⟨pre, fun j => hpm j j.2, hJs⟩⟩
theorem words_stops (n : Nat) (hn : 1 ≤ n) (Bn m : Nat) (s : ByteArray) (w : World) (hs : s.size = 4 * m) (hm : m ≤ 250000) (hb : Bn < w.heap.size) (hc : w.cell? ⟨Bn, 0, none⟩ = some (.string s)) :
    SeqStopsK Fence.wide n Try.prog 30 #[.pointer (some ⟨Bn, 0, none⟩)] (encW s m) (CellK Bn) (fun ys => ∀ k, k ∈ ys) (fun _ => True) m w := fun l J Jx W hW hJ _ hY h0 =>
  words1_in n hn l Bn W.heap.size m s J Jx hJ hs hm hY W ((hW.cell (p := ⟨Bn, 0, none⟩) hb).trans hc) h0
end Go.Proofs.Ytfaedjpfbaiojaa
