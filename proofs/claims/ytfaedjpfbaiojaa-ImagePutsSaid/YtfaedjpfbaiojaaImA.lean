/-
  Lists of words that are read, and lists that a call made; an image; the document's Right.
-/
import Derived.Test.YtfaedjpfbaiojaaRefBytes
import Derived.Test.YtfaedjpfbaiojaaBox
import Derived.Lib.ItoaMem
namespace Go.Proofs.Ytfaedjpfbaiojaa
open Go.RowKit

theorem info_u32 : (Try.prog.info? 35).map (fun i => (i.zero, i.size, i.bytes)) = some (some (.int .u32 0), 1, 4) := by kernel_rfl
/-- The cells of words. -/
def wCells (xs : List Int) : List Value := xs.map (Value.int .u32)
/-- A row of words that the call owns. -/
def OwnsW (B : Nat) (v : Value) (xs : List Int) (w : World) : Prop := w.ownsRow B 35 1 v xs.length (wCells xs)
/-- A slice reads as these words. -/
def RdW (w : World) (v : Value) (xs : List Int) : Prop :=
  ∃ p cap, v = .slice p xs.length cap ∧ (xs.length ≠ 0 → ∃ bk o, p = some ⟨bk, o, none⟩ ∧ bk < w.heap.size ∧ ∀ (k : Nat) (h : k < xs.length), w.cell? ⟨bk, o + k, none⟩ = some (.int .u32 xs[k]))
theorem RdW.on {w w' : World} {v : Value} {xs : List Int} (h : RdW w v xs) (hB : Below w.heap.size w w') : RdW w' v xs := by
  obtain ⟨p, cap, hv, hp⟩ := h
  refine ⟨p, cap, hv, fun hn => ?_⟩
  obtain ⟨bk, o, h1, h2, h3⟩ := hp hn
  exact ⟨bk, o, h1, Nat.lt_of_lt_of_le h2 hB.size, fun k hk => by rw [hB.cell (p := ⟨bk, o + k, none⟩) h2]; exact h3 k hk⟩
theorem OwnsW.reads {B : Nat} {v : Value} {xs : List Int} {w : World} (h : OwnsW B v xs w) : RdW w v xs := by
  have h0 := h
  unfold OwnsW at h
  rcases h.2 with ⟨hv, hn⟩ | ⟨g, cap, cur, rfl, hb, hg, _⟩
  · exact ⟨none, 0, by rw [hv, hn], fun q => absurd hn q⟩
  · refine ⟨some ⟨g, 0, none⟩, cap, rfl, fun _ => ⟨g, 0, rfl, ?_, fun k hk => ?_⟩⟩
    · rcases Nat.lt_or_ge g w.heap.size with q | q
      · exact q
      · rw [Array.getElem?_eq_none q] at hg; cases hg
    · have hc := h.cells (g := g) rfl k (.int .u32 xs[k]) (by simp [wCells, List.getElem?_eq_getElem hk])
      rw [Lib.add_plain] at hc
      exact hc
theorem RdW.nil (w : World) : RdW w (.slice none 0 0) [] := ⟨none, 0, rfl, fun h => absurd rfl h⟩
/-- Words, all of them. -/
def Bd (xs : List Int) : Prop := ∀ x ∈ xs, 0 ≤ x ∧ x < 4294967296
theorem Bd.at {xs : List Int} (h : Bd xs) (k : Nat) (hk : k < xs.length) : 0 ≤ xs[k] ∧ xs[k] < 4294967296 := h _ (List.getElem_mem hk)
theorem bytes_rd (v : Value) (xs : List Int) (t : ByteArray) (w : World) (hn : xs.length ≤ 1000000) (hb : Bd xs) (h : RdW w v xs) (ht : t = ⟨(wbytes xs).toArray⟩) :
    Calls Try.prog 20 #[v] w fun e w' => e = .returned (.string t) ∧ Below w.heap.size w w' := by
  obtain ⟨p, cap, rfl, hp⟩ := h
  rw [ht]
  exact bytes_any p xs cap w hn hb.at hp
theorem refBytes_rd (v : Value) (xs : List Int) (t : ByteArray) (w : World) (hn : xs.length ≤ 1000000) (hb : Bd xs) (h : RdW w v xs) (ht : t = ⟨(wbytes xs).toArray⟩) :
    Calls Try.prog 21 #[v] w fun e w' => e = .returned (.string t) ∧ Below w.heap.size w w' := by
  obtain ⟨p, cap, rfl, hp⟩ := h
  rw [ht]
  exact refBytes_any p xs cap w hn hb.at hp
/-- May an image of so many words and so much memory be? -/
def rightM (n : Nat) (d : Int) : Bool := decide ((n : Int) ≤ 16384) && (decide (0 ≤ d) && decide (d ≤ 32768))
set_option maxHeartbeats 2000000 in
set_option maxRecDepth 100000 in
theorem rright8_any (p : Option Addr) (n cap : Nat) (d : Int) (w : World) : Calls Try.prog 12 #[.agg #[.slice p n cap, .int .i64 d]] w fun e w' => e = .returned (.bool (rightM n d)) ∧ Below w.heap.size w w' := by
  obtain ⟨w1, hw1⟩ : ∃ w', w.alloc (.cells #[.slice p n cap, .int .i64 d] 24) = w' := ⟨_, rfl⟩
  have hI : Box 24 w.heap.size [.slice p n cap, .int .i64 d] w1 := by rw [← hw1]; exact Box.new _ _ w
  have hD : Below w.heap.size w w1 := by rw [← hw1]; exact (Below.refl _ _).alloc (Nat.le_refl _) _
  have c0 := hI.cell (j := 0) (v := .slice p n cap) rfl
  have c1 := hI.cell (j := 1) (v := .int .i64 d) rfl
  have hr : rightM n d = (decide ((n : Int) ≤ 16384) && (decide (0 ≤ d) && decide (d ≤ 32768))) := rfl
  rw [hr]
  clear hr
  cases h1 : decide ((n : Int) ≤ 16384) <;> cases h2 : decide (0 ≤ d) <;> cases h3 : decide (d ≤ 32768)
  all_goals
    go_enter Try.func12, Try.ntmps12
    go_wp2_with fail
    go_ret
    exact ⟨rfl, hD⟩
theorem ret_w {a b : Int} (h : a = b) : Ending.returned (.int .u32 a) = .returned (.int .u32 b) := by rw [h]
theorem below_dN {B : Nat} {a w : World} (h : Below B a w) (n : Nat) : Below B a (w.drewN n) := h.trans ⟨rfl, rfl, rfl, Nat.le_refl _, fun _ _ => rfl⟩
set_option maxHeartbeats 2000000 in
set_option maxRecDepth 100000 in
theorem rword_any (s : ByteArray) (k : Nat) (w : World) (h : k + 4 ≤ s.size) (hs : s.size ≤ 1000000) : Calls Try.prog 25 #[.string s, .int .i64 (k : Int)] w fun e w' => e = .returned (.int .u32 (fw s[k] s[k+1] s[k+2] s[k+3])) ∧ Below w.heap.size w w' := by
  have i0 : (0 : Int) ≤ (k : Int) := by omega
  have i1 : (0 : Int) ≤ (k : Int) + 1 := by omega
  have i2 : (0 : Int) ≤ (k : Int) + 2 := by omega
  have i3 : (0 : Int) ≤ (k : Int) + 3 := by omega
  have j0 : (k : Int) < (s.size : Int) := by omega
  have j1 : (k : Int) + 1 < (s.size : Int) := by omega
  have j2 : (k : Int) + 2 < (s.size : Int) := by omega
  have j3 : (k : Int) + 3 < (s.size : Int) := by omega
  have q1 : IntKind.i64.wrap ((k : Int) + 1) = (k : Int) + 1 := IntWalk.i64_in _ (by omega)
  have q2 : IntKind.i64.wrap ((k : Int) + 2) = (k : Int) + 2 := IntWalk.i64_in _ (by omega)
  have q3 : IntKind.i64.wrap ((k : Int) + 3) = (k : Int) + 3 := IntWalk.i64_in _ (by omega)
  go_enter Try.func25, Try.ntmps25
  go_wp2
  go_quiet (fail)
  go_wp2
  have b0 := s[k].toNat_lt
  have b1 := s[k + 1].toNat_lt
  have b2 := s[k + 2].toNat_lt
  have b3 := s[k + 3].toNat_lt
  go_ret
  exact ⟨ret_w (by unfold fw; omega), below_dN (Below.refl _ _) _⟩
end Go.Proofs.Ytfaedjpfbaiojaa
