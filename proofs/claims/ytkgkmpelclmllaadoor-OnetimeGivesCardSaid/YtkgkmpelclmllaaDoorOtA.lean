/-
  Lists of digests and lists of numbers in memory; plain mathematics of one-time keys: the numbers of a message, walks, ends, keys, signatures.
-/
import Derived.Test.YtkgkmpelclmllaaDoorDgC2
import Derived.Deep.AppendLies
namespace Go.Proofs.YtkgkmpelclmllaaDoor
open Go.RowKit

instance : DecidableEq D4 := fun a b => if h : sameD a b = true then isTrue ((sameD_iff a b).mp h) else isFalse fun e => h ((sameD_iff a b).mpr e)
def allD4 (l : List D4) : Prop := ∀ d ∈ l, d.ok
theorem allD4.take {l : List D4} (h : allD4 l) (k : Nat) : allD4 (l.take k) := fun d hd => h d (List.mem_of_mem_take hd)
theorem allD4.drop {l : List D4} (h : allD4 l) (k : Nat) : allD4 (l.drop k) := fun d hd => h d (List.mem_of_mem_drop hd)
/-- The slice v reads as these digests, four cells each. -/
def dgAt (w : World) (b o : Nat) (d : D4) : Prop := w.cell? ⟨b, o, none⟩ = some (.int .u32 d.d0) ∧ w.cell? ⟨b, o + 1, none⟩ = some (.int .u32 d.d1) ∧ w.cell? ⟨b, o + 2, none⟩ = some (.int .u32 d.d2) ∧ w.cell? ⟨b, o + 3, none⟩ = some (.int .u32 d.d3)
def RdL (w : World) (b o : Nat) (l : List D4) : Prop := b < w.heap.size ∧ ∀ i, i < l.length → dgAt w b (o + i * 4) (l.getD i zeroD)
theorem dgAt.on {w w' : World} {b o : Nat} {d : D4} (h : dgAt w b o d) (hB : Below w.heap.size w w') (hb : b < w.heap.size) : dgAt w' b o d := by
  obtain ⟨h0, h1, h2, h3⟩ := h
  exact ⟨by rw [hB.cell (p := ⟨b, _, none⟩) hb]; exact h0, by rw [hB.cell (p := ⟨b, _, none⟩) hb]; exact h1, by rw [hB.cell (p := ⟨b, _, none⟩) hb]; exact h2, by rw [hB.cell (p := ⟨b, _, none⟩) hb]; exact h3⟩
theorem RdL.on {w w' : World} {b o : Nat} {l : List D4} (h : RdL w b o l) (hB : Below w.heap.size w w') : RdL w' b o l :=
  ⟨Nat.lt_of_lt_of_le h.1 hB.size, fun i hi => (h.2 i hi).on hB h.1⟩
theorem RdL.take {w : World} {b o : Nat} {l : List D4} (h : RdL w b o l) (k : Nat) : RdL w b o (l.take k) :=
  ⟨h.1, fun i hi => by
    rw [List.length_take] at hi
    have := h.2 i (by omega)
    simp only [List.getD, List.getElem?_take, if_pos (show i < k by omega)]
    exact this⟩
theorem RdL.drop {w : World} {b o : Nat} {l : List D4} (h : RdL w b o l) (k : Nat) : RdL w b (o + k * 4) (l.drop k) :=
  ⟨h.1, fun i hi => by
    rw [List.length_drop] at hi
    have := h.2 (k + i) (by omega)
    simp only [List.getD, List.getElem?_drop]
    rw [show o + k * 4 + i * 4 = o + (k + i) * 4 by omega]
    exact this⟩

theorem info_dg : (Tryd.prog.info? 24).map (fun i => (i.zero, i.size, i.bytes)) = some (some (.agg #[.int .u32 0, .int .u32 0, .int .u32 0, .int .u32 0]), 4, 16) := by kernel_rfl
/-- The cells of digests. -/
def dCells : List D4 → List Value
  | [] => []
  | d :: r => .int .u32 d.d0 :: .int .u32 d.d1 :: .int .u32 d.d2 :: .int .u32 d.d3 :: dCells r
theorem dCells_len : ∀ l : List D4, (dCells l).length = l.length * 4
  | [] => rfl
  | _ :: r => by show (dCells r).length + 1 + 1 + 1 + 1 = (r.length + 1) * 4; rw [dCells_len r]; omega
theorem dCells_append : ∀ l m : List D4, dCells (l ++ m) = dCells l ++ dCells m
  | [], _ => rfl
  | d :: r, m => by show _ :: _ :: _ :: _ :: dCells (r ++ m) = _; rw [dCells_append r m]; rfl
theorem dCells_at : ∀ (l : List D4) (i : Nat), i < l.length → (dCells l)[i * 4]? = some (.int .u32 (l.getD i zeroD).d0) ∧ (dCells l)[i * 4 + 1]? = some (.int .u32 (l.getD i zeroD).d1) ∧ (dCells l)[i * 4 + 2]? = some (.int .u32 (l.getD i zeroD).d2) ∧ (dCells l)[i * 4 + 3]? = some (.int .u32 (l.getD i zeroD).d3)
  | [], i, h => absurd h (by simp)
  | d :: r, 0, _ => ⟨rfl, rfl, rfl, rfl⟩
  | d :: r, i + 1, h => by
    have := dCells_at r i (by simpa using h)
    rw [show (i + 1) * 4 = i * 4 + 4 by omega]
    exact this
/-- A row of digests that the call owns. -/
def OwnsD (B : Nat) (v : Value) (l : List D4) (w : World) : Prop := w.ownsRow B 24 4 v l.length (dCells l)
theorem OwnsD.nil (B : Nat) (w : World) : OwnsD B (.slice none 0 0) [] w := World.ownsRow_nil w B _ _
theorem OwnsD.on {B : Nat} {v : Value} {l : List D4} {w w' : World} (h : OwnsD B v l w) (hB : Below w.heap.size w w') : OwnsD B v l w' := by
  refine ⟨h.1, ?_⟩
  rcases h.2 with q | ⟨g, cap, cur, hv, hb, hg, q⟩
  · exact .inl q
  · refine .inr ⟨g, cap, cur, hv, hb, ?_, q⟩
    rw [hB.block g (World.ownsRow.lt h g (by rw [hv]; rfl)).2]
    exact hg
theorem OwnsD.snoc {B : Nat} {v : Value} {l : List D4} {d : D4} {w : World} (h : w.ownsRow B 24 4 v (l.length + 1) (dCells l ++ [.int .u32 d.d0, .int .u32 d.d1, .int .u32 d.d2, .int .u32 d.d3])) : OwnsD B v (l ++ [d]) w := by
  unfold OwnsD
  rw [dCells_append, List.length_append]
  exact h
/-- What such a list looks like to one that reads it. -/
def RdS (w : World) (p : Option Addr) (l : List D4) : Prop := l ≠ [] → ∃ b o, p = some ⟨b, o, none⟩ ∧ RdL w b o l
theorem OwnsD.form {B : Nat} {v : Value} {l : List D4} {w : World} (h : OwnsD B v l w) : ∃ p cap, v = .slice p l.length cap ∧ l.length ≤ cap ∧ cap ≤ maxLen ∧ RdS w p l := by
  have h0 := h
  rcases h.2 with ⟨hv, hn⟩ | ⟨g, cap, cur, hv, hb, hg, hc, hm, _, ht⟩
  · exact ⟨none, 0, by rw [hv, hn], by omega, by unfold maxLen; omega, fun q => absurd (List.length_eq_zero_iff.mp hn) q⟩
  · refine ⟨some ⟨g, 0, none⟩, cap, hv, hc, hm, fun _ => ⟨g, 0, rfl, (World.ownsRow.lt h g (by rw [hv]; rfl)).2, fun i hi => ?_⟩⟩
    have key : ∀ j x, (dCells l)[j]? = some x → w.cell? ⟨g, j, none⟩ = some x := fun j x hj => by
      rw [cell_of_row w g j cur _ _ hg]
      rw [← ht] at hj
      rw [List.getElem?_take] at hj
      split at hj
      · simpa using hj
      · cases hj
    obtain ⟨a0, a1, a2, a3⟩ := dCells_at l i hi
    simp only [Nat.zero_add]
    exact ⟨key _ _ a0, key _ _ a1, key _ _ a2, key _ _ a3⟩

/-! Lists of numbers. -/
theorem info_int : (Tryd.prog.info? 3).map (fun i => (i.zero, i.size, i.bytes)) = some (some (.int .i64 0), 1, 8) := by kernel_rfl
def nCells (l : List Nat) : List Value := l.map fun (n : Nat) => Value.int .i64 ((n : Nat) : Int)
theorem nCells_len (l : List Nat) : (nCells l).length = l.length := by simp [nCells]
theorem nCells_append (l m : List Nat) : nCells (l ++ m) = nCells l ++ nCells m := by simp [nCells]
theorem nCells_at (l : List Nat) (i : Nat) (h : i < l.length) : (nCells l)[i]? = some (.int .i64 ((l.getD i 0 : Nat) : Int)) := by
  simp [nCells, List.getD_eq_getElem?_getD, List.getElem?_eq_getElem h]
/-- A row of numbers that the call owns. -/
def OwnsN (B : Nat) (v : Value) (l : List Nat) (w : World) : Prop := w.ownsRow B 3 1 v l.length (nCells l)
theorem OwnsN.nil (B : Nat) (w : World) : OwnsN B (.slice none 0 0) [] w := World.ownsRow_nil w B _ _
theorem OwnsN.on {B : Nat} {v : Value} {l : List Nat} {w w' : World} (h : OwnsN B v l w) (hB : Below w.heap.size w w') : OwnsN B v l w' := by
  refine ⟨h.1, ?_⟩
  rcases h.2 with q | ⟨g, cap, cur, hv, hb, hg, q⟩
  · exact .inl q
  · refine .inr ⟨g, cap, cur, hv, hb, ?_, q⟩
    rw [hB.block g (World.ownsRow.lt h g (by rw [hv]; rfl)).2]
    exact hg
/-- Numbers that lie in memory. -/
def RdN (w : World) (b : Nat) (l : List Nat) : Prop := b < w.heap.size ∧ ∀ i, i < l.length → w.cell? ⟨b, i, none⟩ = some (.int .i64 ((l.getD i 0 : Nat) : Int))
theorem RdN.on {w w' : World} {b : Nat} {l : List Nat} (h : RdN w b l) (hB : Below w.heap.size w w') : RdN w' b l :=
  ⟨Nat.lt_of_lt_of_le h.1 hB.size, fun i hi => by rw [hB.cell (p := ⟨b, _, none⟩) h.1]; exact h.2 i hi⟩
theorem RdN.thr {w w' : World} {b B : Nat} {l : List Nat} (h : RdN w b l) (hB : Below B w w') (hb : b < B) (hs : B ≤ w'.heap.size) : RdN w' b l :=
  ⟨by omega, fun i hi => by rw [hB.cell (p := ⟨b, _, none⟩) hb]; exact h.2 i hi⟩
theorem OwnsN.form {B : Nat} {v : Value} {l : List Nat} {w : World} (h : OwnsN B v l w) (hl : 0 < l.length) : ∃ g cap, v = .slice (some ⟨g, 0, none⟩) l.length cap ∧ l.length ≤ cap ∧ cap ≤ maxLen ∧ B ≤ g ∧ RdN w g l := by
  rcases h.2 with ⟨hv, hn⟩ | ⟨g, cap, cur, hv, hb, hg, hc, hm, _, ht⟩
  · omega
  · refine ⟨g, cap, hv, hc, hm, hb, (World.ownsRow.lt h g (by rw [hv]; rfl)).2, fun i hi => ?_⟩
    rw [cell_of_row w g i cur _ _ hg]
    have hj := nCells_at l i hi
    rw [← ht, List.getElem?_take] at hj
    split at hj
    · simpa using hj
    · cases hj

/-! The numbers of a message. -/
def nib (x k : Nat) : Nat := x / 16 ^ k % 16
def nibs (x : Nat) : Nat → List Nat
  | 0 => []
  | n + 1 => nib x n :: nibs x n
theorem nib_lt (x k : Nat) : nib x k < 16 := Nat.mod_lt _ (by decide)
theorem nibs_len (x n : Nat) : (nibs x n).length = n := by
  induction n with
  | zero => rfl
  | succ n ih => simp [nibs, ih]
theorem nibs_lt (x n : Nat) : ∀ y ∈ nibs x n, y < 16 := by
  induction n with
  | zero => intro y h; cases h
  | succ n ih =>
    intro y h
    rcases List.mem_cons.mp h with rfl | h
    · exact nib_lt _ _
    · exact ih y h
def lackN : List Nat → Nat
  | [] => 0
  | n :: r => (15 - n) + lackN r
theorem lackN_append (l m : List Nat) : lackN (l ++ m) = lackN l + lackN m := by
  induction l with
  | nil => simp [lackN]
  | cons a l ih => simp [lackN, ih]; omega
theorem lackN_le (l : List Nat) : lackN l ≤ 15 * l.length := by
  induction l with
  | nil => simp [lackN]
  | cons a l ih => simp [lackN]; omega
def digL (d : D4) : List Nat := nibs d.d0.toNat 8 ++ (nibs d.d1.toNat 8 ++ (nibs d.d2.toNat 8 ++ nibs d.d3.toNat 8))
def numL (d : D4) : List Nat := digL d ++ nibs (lackN (digL d)) 3
theorem digL_len (d : D4) : (digL d).length = 32 := by simp [digL, nibs_len]
theorem digL_lt (d : D4) : ∀ y ∈ digL d, y < 16 := by
  intro y h
  simp only [digL, List.mem_append] at h
  rcases h with h | h | h | h <;> exact nibs_lt _ _ y h
theorem digL_lack (d : D4) : lackN (digL d) ≤ 480 := by have := lackN_le (digL d); rw [digL_len] at this; omega
theorem numL_len (d : D4) : (numL d).length = 35 := by simp [numL, digL_len, nibs_len]
theorem numL_lt (d : D4) : ∀ y ∈ numL d, y < 16 := by
  intro y h
  rcases List.mem_append.mp h with h | h
  · exact digL_lt d y h
  · exact nibs_lt _ _ y h
/-- The number for a chain. -/
def num (d : D4) (i : Nat) : Nat := (numL d).getD i 0
theorem num_le (d : D4) (i : Nat) : num d i ≤ 15 := by
  unfold num
  rw [List.getD_eq_getElem?_getD]
  rcases Nat.lt_or_ge i (numL d).length with h | h
  · rw [List.getElem?_eq_getElem h]
    have := numL_lt d _ (List.getElem_mem h)
    simp; omega
  · rw [List.getElem?_eq_none h]; simp

/-! Chains. -/
def oneD : D4 := ⟨0, 0, 0, 1⟩
theorem oneD_ok : oneD.ok := by simp [D4.ok, oneD, isW]
/-- So many steps from a value. -/
def walkD (x : D4) : Nat → D4
  | 0 => x
  | n + 1 => pairS (walkD x n) oneD
theorem walkD_ok {x : D4} (h : x.ok) (n : Nat) : (walkD x n).ok := by
  induction n with
  | zero => exact h
  | succ n ih => exact pairS_ok ih oneD_ok
theorem walkD_add (x : D4) (m n : Nat) : walkD (walkD x m) n = walkD x (m + n) := by
  induction n with
  | zero => rfl
  | succ n ih => show pairS _ _ = pairS (walkD x (m + n)) oneD; rw [ih]
def idxD (i : Nat) : D4 := ⟨(i : Int), 0, 0, 0⟩
theorem idxD_ok {i : Nat} (h : i < 4294967296) : (idxD i).ok := by simp [D4.ok, idxD, isW]; omega
def beginD (s : D4) (i : Nat) : D4 := pairS s (idxD i)
theorem beginD_ok {s : D4} (h : s.ok) {i : Nat} (hi : i < 4294967296) : (beginD s i).ok := pairS_ok h (idxD_ok hi)
def k35 : D4 := ⟨35, 0, 0, 0⟩
theorem k35_ok : k35.ok := by simp [D4.ok, k35, isW]
/-- The public key of ends. -/
def endsD (l : List D4) : D4 := l.foldl pairS k35
theorem foldl_ok (l : List D4) : ∀ (a : D4), a.ok → allD4 l → (l.foldl pairS a).ok := by
  induction l with
  | nil => intro a h _; exact h
  | cons b l ih => intro a h hl; exact ih _ (pairS_ok h (hl b (by simp))) (fun d hd => hl d (by simp [hd]))
theorem endsD_ok {l : List D4} (h : allD4 l) : (endsD l).ok := foldl_ok l k35 k35_ok h
def mapR (f : Nat → D4) (n : Nat) : List D4 := (List.range n).map f
theorem mapR_len (f : Nat → D4) (n : Nat) : (mapR f n).length = n := by simp [mapR]
theorem mapR_at (f : Nat → D4) (n i : Nat) (h : i < n) : (mapR f n).getD i zeroD = f i := by
  simp [mapR, List.getD_eq_getElem?_getD, List.getElem?_range h]
theorem mapR_succ (f : Nat → D4) (n : Nat) : mapR f (n + 1) = mapR f n ++ [f n] := by simp [mapR, List.range_succ]
theorem mapR_ok {f : Nat → D4} {n : Nat} (h : ∀ i, i < n → (f i).ok) : allD4 (mapR f n) := by
  intro d hd
  simp only [mapR, List.mem_map, List.mem_range] at hd
  obtain ⟨i, hi, rfl⟩ := hd
  exact h i hi
theorem mapR_congr {f g : Nat → D4} {n : Nat} (h : ∀ i, i < n → f i = g i) : mapR f n = mapR g n := by
  simp only [mapR]
  exact List.map_congr_left fun i hi => h i (List.mem_range.mp hi)
def signL (seed msg : D4) : List D4 := mapR (fun i => walkD (beginD seed i) (num msg i)) 35
def publicD (seed : D4) : D4 := endsD (mapR (fun i => walkD (beginD seed i) 15) 35)
def reachD (msg : D4) (s : List D4) : D4 := endsD (mapR (fun i => walkD (s.getD i zeroD) (15 - num msg i)) 35)
theorem getD_ok {l : List D4} (h : allD4 l) (i : Nat) : (l.getD i zeroD).ok := by
  rw [List.getD_eq_getElem?_getD]
  rcases Nat.lt_or_ge i l.length with q | q
  · rw [List.getElem?_eq_getElem q]; exact h _ (List.getElem_mem q)
  · rw [List.getElem?_eq_none q]; simp [zeroD, D4.ok, isW]
theorem signL_len (seed msg : D4) : (signL seed msg).length = 35 := mapR_len _ _
theorem signL_ok {seed : D4} (msg : D4) (h : seed.ok) : allD4 (signL seed msg) := mapR_ok fun i _ => walkD_ok (beginD_ok h (by omega)) _
theorem publicD_ok {seed : D4} (h : seed.ok) : (publicD seed).ok := endsD_ok (mapR_ok fun i _ => walkD_ok (beginD_ok h (by omega)) _)
theorem reachD_ok {s : List D4} (msg : D4) (h : allD4 s) : (reachD msg s).ok := endsD_ok (mapR_ok fun i _ => walkD_ok (getD_ok h i) _)
/-- A signature by a key reaches its public key. -/
theorem reach_sign (seed msg : D4) : reachD msg (signL seed msg) = publicD seed := by
  unfold reachD publicD
  congr 1
  refine mapR_congr fun i hi => ?_
  unfold signL
  rw [mapR_at _ _ _ hi, walkD_add]
  have := num_le msg i
  rw [show num msg i + (15 - num msg i) = 15 by omega]
end Go.Proofs.YtkgkmpelclmllaaDoor
