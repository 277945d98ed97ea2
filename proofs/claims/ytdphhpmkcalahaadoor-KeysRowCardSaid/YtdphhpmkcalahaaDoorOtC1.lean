/-
  Lists of digests and of numbers; one-time keys: their mathematics, and the code's Steps, chains, Public, Sign, Reach.
-/
import Derived.Test.YtdphhpmkcalahaaDoorDgC2
import Derived.Deep.AppendLies
import Derived.Laws.ShiftsVarLaws
namespace Go.Proofs.YtdphhpmkcalahaaDoor

section
/-! Lists of digests and lists of numbers in memory; plain mathematics of one-time keys: the numbers of a message, walks, ends, keys, signatures. -/
open Go.RowKit

instance : DecidableEq D4 := fun a b => if h : sameD a b = true then isTrue ((sameD_iff a b).mp h) else isFalse fun e => h ((sameD_iff a b).mpr e)
def allD4 (l : List D4) : Prop := ∀ d ∈ l, d.ok
theorem allD4.take {l : List D4} (h : allD4 l) (k : Nat) : allD4 (l.take k) := fun d hd => h d (List.mem_of_mem_take hd)
theorem allD4.drop {l : List D4} (h : allD4 l) (k : Nat) : allD4 (l.drop k) := fun d hd => h d (List.mem_of_mem_drop hd)
/-- The slice v reads as these digests, four cells each. -/
def dgAt (w : World) (b o : Nat) (d : D4) : Prop := w.cell? ⟨b, o, none⟩ = some (.int .u32 d.d0) ∧ w.cell? ⟨b, o + 1, none⟩ = some (.int .u32 d.d1) ∧ w.cell? ⟨b, o + 2, none⟩ = some (.int .u32 d.d2) ∧ w.cell? ⟨b, o + 3, none⟩ = some (.int .u32 d.d3)
def RdL (w : World) (b o : Nat) (l : List D4) : Prop := b < w.heap.size ∧ ∀ i, i < l.length → dgAt w b (o + i * 4) (l.getD i zeroD)
theorem dgAt.on {w w' : World} {b o : Nat} {d : D4} (h : dgAt w b o d) (hB : Below w.heap.size w w') (hb : b < w.heap.size) : dgAt w' b o d := by
  obtain ⟨h0, h1, h2, h3⟩ := h
  exact ⟨by rw [hB.cell (p := ⟨b, _, none⟩) hb]; exact h0, by rw [hB.cell (p := ⟨b, _, none⟩) hb]; exact h1, by rw [hB.cell (p := ⟨b, _, none⟩) hb]; exact h2, by rw [hB.cell (p := ⟨b, _, none⟩) hb]; exact h3⟩
theorem RdL.on {w w' : World} {b o : Nat} {l : List D4} (h : RdL w b o l) (hB : Below w.heap.size w w') : RdL w' b o l :=
  ⟨Nat.lt_of_lt_of_le h.1 hB.size, fun i hi => (h.2 i hi).on hB h.1⟩
theorem RdL.take {w : World} {b o : Nat} {l : List D4} (h : RdL w b o l) (k : Nat) : RdL w b o (l.take k) :=
  ⟨h.1, fun i hi => by
    rw [List.length_take] at hi
    have := h.2 i (by omega)
    simp only [List.getD, List.getElem?_take, if_pos (show i < k by omega)]
    exact this⟩
theorem RdL.drop {w : World} {b o : Nat} {l : List D4} (h : RdL w b o l) (k : Nat) : RdL w b (o + k * 4) (l.drop k) :=
  ⟨h.1, fun i hi => by
    rw [List.length_drop] at hi
    have := h.2 (k + i) (by omega)
    simp only [List.getD, List.getElem?_drop]
    rw [show o + k * 4 + i * 4 = o + (k + i) * 4 by omega]
    exact this⟩

theorem info_dg : (Tryd.prog.info? 24).map (fun i => (i.zero, i.size, i.bytes)) = some (some (.agg #[.int .u32 0, .int .u32 0, .int .u32 0, .int .u32 0]), 4, 16) := by kernel_rfl
/-- The cells of digests. -/
def dCells : List D4 → List Value
  | [] => []
  | d :: r => .int .u32 d.d0 :: .int .u32 d.d1 :: .int .u32 d.d2 :: .int .u32 d.d3 :: dCells r
theorem dCells_len : ∀ l : List D4, (dCells l).length = l.length * 4
  | [] => rfl
  | _ :: r => by show (dCells r).length + 1 + 1 + 1 + 1 = (r.length + 1) * 4; rw [dCells_len r]; omega
theorem dCells_append : ∀ l m : List D4, dCells (l ++ m) = dCells l ++ dCells m
  | [], _ => rfl
  | d :: r, m => by show _ :: _ :: _ :: _ :: dCells (r ++ m) = _; rw [dCells_append r m]; rfl
theorem dCells_at : ∀ (l : List D4) (i : Nat), i < l.length → (dCells l)[i * 4]? = some (.int .u32 (l.getD i zeroD).d0) ∧ (dCells l)[i * 4 + 1]? = some (.int .u32 (l.getD i zeroD).d1) ∧ (dCells l)[i * 4 + 2]? = some (.int .u32 (l.getD i zeroD).d2) ∧ (dCells l)[i * 4 + 3]? = some (.int .u32 (l.getD i zeroD).d3)
  | [], i, h => absurd h (by simp)
  | d :: r, 0, _ => ⟨rfl, rfl, rfl, rfl⟩
  | d :: r, i + 1, h => by
    have := dCells_at r i (by simpa using h)
    rw [show (i + 1) * 4 = i * 4 + 4 by omega]
    exact this
/-- A row of digests that the call owns. -/
def OwnsD (B : Nat) (v : Value) (l : List D4) (w : World) : Prop := w.ownsRow B 24 4 v l.length (dCells l)
theorem OwnsD.nil (B : Nat) (w : World) : OwnsD B (.slice none 0 0) [] w := World.ownsRow_nil w B _ _
theorem OwnsD.on {B : Nat} {v : Value} {l : List D4} {w w' : World} (h : OwnsD B v l w) (hB : Below w.heap.size w w') : OwnsD B v l w' := by
  refine ⟨h.1, ?_⟩
  rcases h.2 with q | ⟨g, cap, cur, hv, hb, hg, q⟩
  · exact .inl q
  · refine .inr ⟨g, cap, cur, hv, hb, ?_, q⟩
    rw [hB.block g (World.ownsRow.lt h g (by rw [hv]; rfl)).2]
    exact hg
theorem OwnsD.snoc {B : Nat} {v : Value} {l : List D4} {d : D4} {w : World} (h : w.ownsRow B 24 4 v (l.length + 1) (dCells l ++ [.int .u32 d.d0, .int .u32 d.d1, .int .u32 d.d2, .int .u32 d.d3])) : OwnsD B v (l ++ [d]) w := by
  unfold OwnsD
  rw [dCells_append, List.length_append]
  exact h
/-- What such a list looks like to one that reads it. -/
def RdS (w : World) (p : Option Addr) (l : List D4) : Prop := l ≠ [] → ∃ b o, p = some ⟨b, o, none⟩ ∧ RdL w b o l
theorem OwnsD.form {B : Nat} {v : Value} {l : List D4} {w : World} (h : OwnsD B v l w) : ∃ p cap, v = .slice p l.length cap ∧ l.length ≤ cap ∧ cap ≤ maxLen ∧ RdS w p l := by
  have h0 := h
  rcases h.2 with ⟨hv, hn⟩ | ⟨g, cap, cur, hv, hb, hg, hc, hm, _, ht⟩
  · exact ⟨none, 0, by rw [hv, hn], by omega, by unfold maxLen; omega, fun q => absurd (List.length_eq_zero_iff.mp hn) q⟩
  · refine ⟨some ⟨g, 0, none⟩, cap, hv, hc, hm, fun _ => ⟨g, 0, rfl, (World.ownsRow.lt h g (by rw [hv]; rfl)).2, fun i hi => ?_⟩⟩
    have key : ∀ j x, (dCells l)[j]? = some x → w.cell? ⟨g, j, none⟩ = some x := fun j x hj => by
      rw [cell_of_row w g j cur _ _ hg]
      rw [← ht] at hj
      rw [List.getElem?_take] at hj
      split at hj
      · simpa using hj
      · cases hj
    obtain ⟨a0, a1, a2, a3⟩ := dCells_at l i hi
    simp only [Nat.zero_add]
    exact ⟨key _ _ a0, key _ _ a1, key _ _ a2, key _ _ a3⟩

/-! Lists of numbers. -/
theorem info_int : (Tryd.prog.info? 3).map (fun i => (i.zero, i.size, i.bytes)) = some (some (.int .i64 0), 1, 8) := by kernel_rfl
def nCells (l : List Nat) : List Value := l.map fun (n : Nat) => Value.int .i64 ((n : Nat) : Int)
theorem nCells_len (l : List Nat) : (nCells l).length = l.length := by simp [nCells]
theorem nCells_append (l m : List Nat) : nCells (l ++ m) = nCells l ++ nCells m := by simp [nCells]
theorem nCells_at (l : List Nat) (i : Nat) (h : i < l.length) : (nCells l)[i]? = some (.int .i64 ((l.getD i 0 : Nat) : Int)) := by
  simp [nCells, List.getD_eq_getElem?_getD, List.getElem?_eq_getElem h]
/-- A row of numbers that the call owns. -/
def OwnsN (B : Nat) (v : Value) (l : List Nat) (w : World) : Prop := w.ownsRow B 3 1 v l.length (nCells l)
theorem OwnsN.nil (B : Nat) (w : World) : OwnsN B (.slice none 0 0) [] w := World.ownsRow_nil w B _ _
theorem OwnsN.on {B : Nat} {v : Value} {l : List Nat} {w w' : World} (h : OwnsN B v l w) (hB : Below w.heap.size w w') : OwnsN B v l w' := by
  refine ⟨h.1, ?_⟩
  rcases h.2 with q | ⟨g, cap, cur, hv, hb, hg, q⟩
  · exact .inl q
  · refine .inr ⟨g, cap, cur, hv, hb, ?_, q⟩
    rw [hB.block g (World.ownsRow.lt h g (by rw [hv]; rfl)).2]
    exact hg
/-- Numbers that lie in memory. -/
def RdN (w : World) (b : Nat) (l : List Nat) : Prop := b < w.heap.size ∧ ∀ i, i < l.length → w.cell? ⟨b, i, none⟩ = some (.int .i64 ((l.getD i 0 : Nat) : Int))
theorem RdN.on {w w' : World} {b : Nat} {l : List Nat} (h : RdN w b l) (hB : Below w.heap.size w w') : RdN w' b l :=
  ⟨Nat.lt_of_lt_of_le h.1 hB.size, fun i hi => by rw [hB.cell (p := ⟨b, _, none⟩) h.1]; exact h.2 i hi⟩
theorem RdN.thr {w w' : World} {b B : Nat} {l : List Nat} (h : RdN w b l) (hB : Below B w w') (hb : b < B) (hs : B ≤ w'.heap.size) : RdN w' b l :=
  ⟨by omega, fun i hi => by rw [hB.cell (p := ⟨b, _, none⟩) hb]; exact h.2 i hi⟩
theorem OwnsN.form {B : Nat} {v : Value} {l : List Nat} {w : World} (h : OwnsN B v l w) (hl : 0 < l.length) : ∃ g cap, v = .slice (some ⟨g, 0, none⟩) l.length cap ∧ l.length ≤ cap ∧ cap ≤ maxLen ∧ B ≤ g ∧ RdN w g l := by
  rcases h.2 with ⟨hv, hn⟩ | ⟨g, cap, cur, hv, hb, hg, hc, hm, _, ht⟩
  · omega
  · refine ⟨g, cap, hv, hc, hm, hb, (World.ownsRow.lt h g (by rw [hv]; rfl)).2, fun i hi => ?_⟩
    rw [cell_of_row w g i cur _ _ hg]
    have hj := nCells_at l i hi
    rw [← ht, List.getElem?_take] at hj
    split at hj
    · simpa using hj
    · cases hj

/-! The numbers of a message. -/
def nib (x k : Nat) : Nat := x / 16 ^ k % 16
def nibs (x : Nat) : Nat → List Nat
  | 0 => []
  | n + 1 => nib x n :: nibs x n
theorem nib_lt (x k : Nat) : nib x k < 16 := Nat.mod_lt _ (by decide)
theorem nibs_len (x n : Nat) : (nibs x n).length = n := by
  induction n with
  | zero => rfl
  | succ n ih => simp [nibs, ih]
theorem nibs_lt (x n : Nat) : ∀ y ∈ nibs x n, y < 16 := by
  induction n with
  | zero => intro y h; cases h
  | succ n ih =>
    intro y h
    rcases List.mem_cons.mp h with rfl | h
    · exact nib_lt _ _
    · exact ih y h
def lackN : List Nat → Nat
  | [] => 0
  | n :: r => (15 - n) + lackN r
theorem lackN_append (l m : List Nat) : lackN (l ++ m) = lackN l + lackN m := by
  induction l with
  | nil => simp [lackN]
  | cons a l ih => simp [lackN, ih]; omega
theorem lackN_le (l : List Nat) : lackN l ≤ 15 * l.length := by
  induction l with
  | nil => simp [lackN]
  | cons a l ih => simp [lackN]; omega
def digL (d : D4) : List Nat := nibs d.d0.toNat 8 ++ (nibs d.d1.toNat 8 ++ (nibs d.d2.toNat 8 ++ nibs d.d3.toNat 8))
def numL (d : D4) : List Nat := digL d ++ nibs (lackN (digL d)) 3
theorem digL_len (d : D4) : (digL d).length = 32 := by simp [digL, nibs_len]
theorem digL_lt (d : D4) : ∀ y ∈ digL d, y < 16 := by
  intro y h
  simp only [digL, List.mem_append] at h
  rcases h with h | h | h | h <;> exact nibs_lt _ _ y h
theorem digL_lack (d : D4) : lackN (digL d) ≤ 480 := by have := lackN_le (digL d); rw [digL_len] at this; omega
theorem numL_len (d : D4) : (numL d).length = 35 := by simp [numL, digL_len, nibs_len]
theorem numL_lt (d : D4) : ∀ y ∈ numL d, y < 16 := by
  intro y h
  rcases List.mem_append.mp h with h | h
  · exact digL_lt d y h
  · exact nibs_lt _ _ y h
/-- The number for a chain. -/
def num (d : D4) (i : Nat) : Nat := (numL d).getD i 0
theorem num_le (d : D4) (i : Nat) : num d i ≤ 15 := by
  unfold num
  rw [List.getD_eq_getElem?_getD]
  rcases Nat.lt_or_ge i (numL d).length with h | h
  · rw [List.getElem?_eq_getElem h]
    have := numL_lt d _ (List.getElem_mem h)
    simp; omega
  · rw [List.getElem?_eq_none h]; simp

/-! Chains. -/
def oneD : D4 := ⟨0, 0, 0, 1⟩
theorem oneD_ok : oneD.ok := by simp [D4.ok, oneD, isW]
/-- So many steps from a value. -/
def walkD (x : D4) : Nat → D4
  | 0 => x
  | n + 1 => pairS (walkD x n) oneD
theorem walkD_ok {x : D4} (h : x.ok) (n : Nat) : (walkD x n).ok := by
  induction n with
  | zero => exact h
  | succ n ih => exact pairS_ok ih oneD_ok
theorem walkD_add (x : D4) (m n : Nat) : walkD (walkD x m) n = walkD x (m + n) := by
  induction n with
  | zero => rfl
  | succ n ih => show pairS _ _ = pairS (walkD x (m + n)) oneD; rw [ih]
def idxD (i : Nat) : D4 := ⟨(i : Int), 0, 0, 0⟩
theorem idxD_ok {i : Nat} (h : i < 4294967296) : (idxD i).ok := by simp [D4.ok, idxD, isW]; omega
def beginD (s : D4) (i : Nat) : D4 := pairS s (idxD i)
theorem beginD_ok {s : D4} (h : s.ok) {i : Nat} (hi : i < 4294967296) : (beginD s i).ok := pairS_ok h (idxD_ok hi)
def k35 : D4 := ⟨35, 0, 0, 0⟩
theorem k35_ok : k35.ok := by simp [D4.ok, k35, isW]
/-- The public key of ends. -/
def endsD (l : List D4) : D4 := l.foldl pairS k35
theorem foldl_ok (l : List D4) : ∀ (a : D4), a.ok → allD4 l → (l.foldl pairS a).ok := by
  induction l with
  | nil => intro a h _; exact h
  | cons b l ih => intro a h hl; exact ih _ (pairS_ok h (hl b (by simp))) (fun d hd => hl d (by simp [hd]))
theorem endsD_ok {l : List D4} (h : allD4 l) : (endsD l).ok := foldl_ok l k35 k35_ok h
def mapR (f : Nat → D4) (n : Nat) : List D4 := (List.range n).map f
theorem mapR_len (f : Nat → D4) (n : Nat) : (mapR f n).length = n := by simp [mapR]
theorem mapR_at (f : Nat → D4) (n i : Nat) (h : i < n) : (mapR f n).getD i zeroD = f i := by
  simp [mapR, List.getD_eq_getElem?_getD, List.getElem?_range h]
theorem mapR_succ (f : Nat → D4) (n : Nat) : mapR f (n + 1) = mapR f n ++ [f n] := by simp [mapR, List.range_succ]
theorem mapR_ok {f : Nat → D4} {n : Nat} (h : ∀ i, i < n → (f i).ok) : allD4 (mapR f n) := by
  intro d hd
  simp only [mapR, List.mem_map, List.mem_range] at hd
  obtain ⟨i, hi, rfl⟩ := hd
  exact h i hi
theorem mapR_congr {f g : Nat → D4} {n : Nat} (h : ∀ i, i < n → f i = g i) : mapR f n = mapR g n := by
  simp only [mapR]
  exact List.map_congr_left fun i hi => h i (List.mem_range.mp hi)
def signL (seed msg : D4) : List D4 := mapR (fun i => walkD (beginD seed i) (num msg i)) 35
def publicD (seed : D4) : D4 := endsD (mapR (fun i => walkD (beginD seed i) 15) 35)
def reachD (msg : D4) (s : List D4) : D4 := endsD (mapR (fun i => walkD (s.getD i zeroD) (15 - num msg i)) 35)
theorem getD_ok {l : List D4} (h : allD4 l) (i : Nat) : (l.getD i zeroD).ok := by
  rw [List.getD_eq_getElem?_getD]
  rcases Nat.lt_or_ge i l.length with q | q
  · rw [List.getElem?_eq_getElem q]; exact h _ (List.getElem_mem q)
  · rw [List.getElem?_eq_none q]; simp [zeroD, D4.ok, isW]
theorem signL_len (seed msg : D4) : (signL seed msg).length = 35 := mapR_len _ _
theorem signL_ok {seed : D4} (msg : D4) (h : seed.ok) : allD4 (signL seed msg) := mapR_ok fun i _ => walkD_ok (beginD_ok h (by omega)) _
theorem publicD_ok {seed : D4} (h : seed.ok) : (publicD seed).ok := endsD_ok (mapR_ok fun i _ => walkD_ok (beginD_ok h (by omega)) _)
theorem reachD_ok {s : List D4} (msg : D4) (h : allD4 s) : (reachD msg s).ok := endsD_ok (mapR_ok fun i _ => walkD_ok (getD_ok h i) _)
/-- A signature by a key reaches its public key. -/
theorem reach_sign (seed msg : D4) : reachD msg (signL seed msg) = publicD seed := by
  unfold reachD publicD
  congr 1
  refine mapR_congr fun i hi => ?_
  unfold signL
  rw [mapR_at _ _ _ hi, walkD_add]
  have := num_le msg i
  rw [show num msg i + (15 - num msg i) = 15 by omega]
end

section
/-! The code's appendDigits and Steps: the numbers of a message. -/
open Go.RowKit

theorem digit_fact (x : Int) (m : Nat) (h : isW x) : wrap64 (bits .and .u32 (x / 2 ^ (4 * m)) 15) = ((nib x.toNat m : Nat) : Int) := by
  obtain ⟨a, rfl⟩ := Int.eq_ofNat_of_zero_le h.1
  have ha : a < 4294967296 := by have := h.2; omega
  have e : ((a : Int) / 2 ^ (4 * m)) = ((a / 16 ^ m : Nat) : Int) := by
    rw [show (16 : Nat) ^ m = 2 ^ (4 * m) by rw [Nat.pow_mul]]
    norm_cast
  have hq : a / 16 ^ m < 4294967296 := Nat.lt_of_le_of_lt (Nat.div_le_self _ _) ha
  rw [e, show (15 : Int) = ((15 : Nat) : Int) from rfl, u32_and_nat _ _ hq (by omega)]
  have hn : (a / 16 ^ m) &&& 15 = a / 16 ^ m % 16 := Nat.and_two_pow_sub_one_eq_mod _ 4
  rw [hn]
  have := Nat.mod_lt (a / 16 ^ m) (show 0 < 16 by decide)
  unfold wrap64 nib
  simp only [Int.toNat_natCast]
  omega
theorem nibs_shift (L : List Nat) (x m : Nat) : (L ++ [nib x m]) ++ nibs x m = L ++ nibs x (m + 1) := by simp [nibs]
theorem OwnsN.snoc {B : Nat} {v : Value} {l : List Nat} {y : Nat} {w : World} (h : w.ownsRow B 3 1 v (l.length + 1) (nCells l ++ [.int .i64 (y : Int)])) : OwnsN B v (l ++ [y]) w := by
  unfold OwnsN
  rw [nCells_append, List.length_append]
  exact h
set_option maxHeartbeats 2000000 in
set_option maxRecDepth 100000 in
theorem cdigits_any (B : Nat) (v : Value) (l : List Nat) (x : Int) (n : Nat) (w : World) (hx : isW x) (hn : n ≤ 8) (hl : l.length ≤ 1000) (hB : B ≤ w.heap.size) (ho : OwnsN B v l w) :
    Calls Tryd.prog 70 #[v, .int .u32 x, .int .i64 (n : Int)] w fun e w' => ∃ v', e = .returned v' ∧ OwnsN B v' (l ++ nibs x.toNat n) w' ∧ Below B w w' := by
  obtain ⟨i0, hinf, hz0, hz1, hz2⟩ := info_parts info_int
  have HX := Lib.hid hx
  obtain ⟨hx0, hx1⟩ := hx
  go_enter Tryd.func70, Tryd.ntmps70
  go_wp2
  go_loopw [0, 7] (fun u i wr => ∃ (j : Nat) (L : List Nat), j ≤ n ∧ i = .int .i64 ((j : Int) - 1) ∧ OwnsN B u L wr ∧ Hid (L ++ nibs x.toNat j = l ++ nibs x.toNat n) ∧ L.length + j ≤ 1008 ∧ Below B w wr ∧ B ≤ wr.heap.size) (fun _ i _ => (intOf i + 1).toNat)
  case atStart => exact ⟨n, l, Nat.le_refl _, by go_num, ho, rfl, by omega, Below.refl _ _, hB⟩
  case round =>
    obtain ⟨j, L, hj, rfl, hown, HL, hLl, hV, hbw⟩ := hrel
    rcases Nat.eq_zero_or_pos j with rfl | hpos
    · go_wp2
      go_ret
      have := HL.out
      simp only [nibs, List.append_nil] at this
      exact ⟨_, rfl, by rw [← this]; exact hown, hV⟩
    · obtain ⟨m, rfl⟩ : ∃ m, j = m + 1 := ⟨j - 1, by omega⟩
      have hown' : wr.ownsRow B 3 1 u0 L.length (nCells L) := hown
      obtain ⟨y, hy⟩ : ∃ y, nib x.toNat m = y := ⟨_, rfl⟩
      have hd := digit_fact x m HX.out
      rw [hy] at hd
      have HY := Lib.hid hy
      clear hy
      go_wp2_with (at_builtin; refine wpList_append_lies _ (by rfl) _ _ _ (by rfl) B 3 i0 _ 1 8 Tryd.underlying66 hinf hz0 hz1 hz2 rfl (by omega) u0 L.length (nCells L) (by rfl) (hown'.alloc _) ⟨wr.heap.size, 0, none⟩ 1 1 [.int .i64 (y : Int)] (by rfl) (by rfl) (World.news_of_block (cs := #[.int .i64 (y : Int)]) (t := 3) (fr := (0, 0)) (heap_alloc_new wr _)) (by simp [Value.oneCell']) (by omega) (by unfold maxLen; omega) (by omega) (by simp; omega) (wr.heap.size + 1) (by simp) ?_; intro gg gcap w3 hown3 hgrow hat hlt3)
      have hV3 : Below B w w3 := (hV.alloc hbw _).grown hgrow (by simp; omega) (fun k hk => (World.ownsRow.lt hown' k hk).1)
      have hO := OwnsN.snoc (y := y) hown3
      have hE : Hid ((L ++ [y]) ++ nibs x.toNat m = l ++ nibs x.toNat n) := by
        show _ = _
        rw [← HY.out, nibs_shift, HL.out]
      have hb3 : B ≤ w3.heap.size := by have := hV3.size; omega
      clear hown3 hgrow hat hown hown' hV HL hd HY
      go_wp2
      go_roundw
      case rel => exact ⟨m, L ++ [y], by omega, by go_num, hO, hE, by simp; omega, hV3, hb3⟩
      case measure => simp [intOf]
def digP (D : List Int) : Nat → List Nat
  | 0 => []
  | n + 1 => digP D n ++ nibs (D.getD n 0).toNat 8
theorem digP_len (D : List Int) (n : Nat) : (digP D n).length = 8 * n := by
  induction n with
  | zero => rfl
  | succ n ih => rw [digP, List.length_append, ih, nibs_len]; omega
theorem digP_list (d : D4) : digP d.toL 4 = digL d := by simp [digP, digL, D4.toL]
theorem lack_next (l : List Nat) (k : Nat) (h : k < l.length) (h15 : l.getD k 0 ≤ 15) : ((lackN (l.take (k + 1)) : Nat) : Int) = ((lackN (l.take k) : Nat) : Int) + (15 - ((l.getD k 0 : Nat) : Int)) := by
  rw [List.take_add_one, lackN_append, List.getD_eq_getElem?_getD] at *
  rw [List.getElem?_eq_getElem h] at *
  simp [lackN] at *
  omega
theorem cdigits_val (B : Nat) (v : Value) (l L : List Nat) (x : Int) (n : Nat) (w : World) (hx : isW x) (hn : n ≤ 8) (hl : l.length ≤ 1000) (hB : B ≤ w.heap.size) (ho : OwnsN B v l w) (hL : l ++ nibs x.toNat n = L) (m : Int) (hm : (n : Int) = m) :
    Calls Tryd.prog 70 #[v, .int .u32 x, .int .i64 m] w fun e w' => ∃ v', e = .returned v' ∧ OwnsN B v' L w' ∧ Below B w w' := by
  subst hm; subst hL; exact cdigits_any B v l x n w hx hn hl hB ho
set_option maxHeartbeats 2000000 in
set_option maxRecDepth 100000 in
theorem csteps_any (d : D4) (w : World) (hd : d.ok) :
    Calls Tryd.prog 52 #[d.val] w fun e w' => ∃ g cap, e = .returned (.slice (some ⟨g, 0, none⟩) 35 cap) ∧ w.heap.size ≤ g ∧ 35 ≤ cap ∧ cap ≤ maxLen ∧ RdN w' g (numL d) ∧ Below w.heap.size w w' := by
  obtain ⟨i0, hinf, hz0, hz1, hz2⟩ := info_parts info_int
  obtain ⟨w0, hw0⟩ : ∃ w0, w.alloc (.cells #[.int .u32 d.d0, .int .u32 d.d1, .int .u32 d.d2, .int .u32 d.d3] 24) = w0 := ⟨_, rfl⟩
  have hA0 : Arr .u32 24 w.heap.size d.toL w0 := by rw [← hw0]; exact heap_alloc_new w _
  have hB0 : Below w.heap.size w w0 := by rw [← hw0]; exact (Below.refl _ _).alloc (Nat.le_refl _) _
  go_enter Tryd.func52, Tryd.ntmps52
  simp only [D4.val]
  go_wp2_with (at_make; refine wpList_make_own _ rfl _ _ 66 rfl w.heap.size 3 i0 (.int .i64 0) 1 Tryd.underlying66 hinf hz0 hz1 .i64 .i64 _ 35 rfl rfl rfl (by rw [hz2]; omega) (by unfold maxLen; omega) hB0.size ?_; intro w1 hown1 hg1; have hS1 : Below w0.heap.size w0 w1 := (Below.refl _ _).grown hg1 (Nat.le_refl _) (fun k hk => by cases hk); have hA1 := hA0.on hS1; obtain ⟨l0, l1, l2, l3⟩ := Arr.c4 hA1)
  have hB1 := hB0.trans (hS1.mono hB0.size)
  have hO1 : OwnsN w.heap.size (.slice (some ⟨w0.heap.size, 0, none⟩) 0 35) [] w1 := hown1
  clear hown1 hg1 hS1 hA1 hA0 hB0 l0 l1 l2 l3
  go_loopw [3, 11] (fun v i wr => ∃ (k : Nat) (L : List Nat), k ≤ 4 ∧ i = .int .i64 (k : Int) ∧ OwnsN w.heap.size v L wr ∧ Hid (L = digP d.toL k) ∧ L.length = 8 * k ∧ Below w.heap.size w wr) (fun _ i _ => 4 - (intOf i).toNat)
  case atStart => exact ⟨0, [], by omega, rfl, hO1, rfl, rfl, hB1⟩
  case round =>
    clear hO1 hB1
    obtain ⟨k, L, hk, rfl, hown, HL, hLl, hB⟩ := hrel
    by_cases hlt : k < 4
    · have hkd : decide ((k : Int) < 4) = true := by simp; omega
      have hix := index_dig d hlt
      obtain ⟨x, hx⟩ : ∃ x, d.toL.getD k 0 = x := ⟨_, rfl⟩
      have hxw : isW x := by rw [← hx]; exact (D4.toL_ok hd).get k
      rw [hx] at hix
      obtain ⟨M, hM⟩ : ∃ M, L ++ nibs x.toNat 8 = M := ⟨_, rfl⟩
      have hMl : M.length = 8 * (k + 1) := by rw [← hM, List.length_append, nibs_len]; omega
      have HM : Hid (M = digP d.toL (k + 1)) := by show _ = _; rw [digP, hx, ← hM, HL.out]
      have HM0 := Lib.hid hM
      have HXW := Lib.hid hxw
      have HO := Lib.hid hown
      have hbw := hB.size
      clear hM hx hxw hown
      go_wp2_with fail
      refine (cdigits_val w.heap.size u3 L M x 8 _ HXW.out (by omega) (by omega) hbw HO.out HM0.out 8 rfl).mono ?_
      rintro e w2 ⟨v', rfl, hO2, hB2⟩
      have hB3 := hB.trans hB2
      go_wp2
      go_roundw
      case rel => exact ⟨k + 1, M, by omega, by go_num, hO2, HM, hMl, hB3⟩
      case measure => simp [intOf]; omega
    · have hk4 : k = 4 := by omega
      subst hk4
      have hE : L = digL d := by rw [HL.out, digP_list]
      clear HL hLl
      subst hE
      obtain ⟨g, cap, rfl, hc1, hc2, hg, hR⟩ := hown.form (by rw [digL_len]; omega)
      have hO := hown
      rw [digL_len] at hO hc1 ⊢
      obtain ⟨N, hN⟩ : ∃ N, digL d = N := ⟨_, rfl⟩
      have hNl : N.length = 32 := by rw [← hN, digL_len]
      have hNt : ∀ i, N.getD i 0 ≤ 15 := fun i => by
        rw [← hN, List.getD_eq_getElem?_getD]
        rcases Nat.lt_or_ge i (digL d).length with h | h
        · rw [List.getElem?_eq_getElem h]
          have := digL_lt d _ (List.getElem_mem h)
          simp; omega
        · rw [List.getElem?_eq_none h]; simp
      have hlk : lackN N ≤ 480 := by rw [← hN]; exact digL_lack d
      have HN := Lib.hid hN
      rw [hN] at hO hR
      have HNt := Lib.hid hNt
      clear hN hown hNt
      go_wp2
      go_loop [6, 20] (fun s i => ∃ k : Nat, k ≤ 32 ∧ s = .int .i64 ((lackN (N.take k) : Nat) : Int) ∧ i = .int .i64 (k : Int)) (fun _ i => 32 - (intOf i).toNat)
      case atStart => exact ⟨0, by omega, rfl, rfl⟩
      case round =>
        obtain ⟨k, hk, rfl, rfl⟩ := hrel
        by_cases hlt : k < 32
        · have hkd : decide ((k : Int) < 32) = true := by simp; omega
          have hk0 : (0 : Int) ≤ (k : Int) := by omega
          have hk1 : (k : Int) < 32 := by omega
          have hkl : k < N.length := by omega
          have hc := hR.2 k hkl
          have hnx := lack_next N k hkl (HNt.out k)
          have hup : lackN (N.take (k + 1)) ≤ 15 * (k + 1) := by have := lackN_le (N.take (k + 1)); rw [List.length_take] at this; omega
          have hup0 : lackN (N.take k) ≤ 15 * k := by have := lackN_le (N.take k); rw [List.length_take] at this; omega
          have h15 := HNt.out k
          obtain ⟨y, hy⟩ : ∃ y, N.getD k 0 = y := ⟨_, rfl⟩
          obtain ⟨s0, hs0⟩ : ∃ s, lackN (N.take k) = s := ⟨_, rfl⟩
          obtain ⟨s1, hs1⟩ : ∃ s, lackN (N.take (k + 1)) = s := ⟨_, rfl⟩
          rw [hy] at hc hnx h15
          rw [hs0] at hnx hup0
          rw [hs1] at hnx hup
          have HS1 := Lib.hid hs1
          rw [hs0]
          have hw1 : IntKind.i64.wrap (15 - (y : Int)) = 15 - (y : Int) := IntWalk.i64_in _ (by omega)
          have hw2 : IntKind.i64.wrap ((s0 : Int) + (15 - (y : Int))) = (s1 : Int) := by rw [IntWalk.i64_in _ (by omega)]; omega
          clear hy hs0 hs1
          go_wp2
          go_round
          case rel => exact ⟨k + 1, by omega, by rw [HS1.out]; congr 1 <;> omega, by go_num⟩
          case measure => simp [intOf]; omega
        · have hk32 : k = 32 := by omega
          subst hk32
          rw [List.take_of_length_le (by omega)]
          obtain ⟨S, hS⟩ : ∃ S, lackN N = S := ⟨_, rfl⟩
          rw [hS] at hlk ⊢
          have hSw : isW (S : Int) := by unfold isW; omega
          obtain ⟨M, hM⟩ : ∃ M, N ++ nibs ((S : Nat) : Int).toNat 3 = M := ⟨_, rfl⟩
          have HM : Hid (M = numL d) := by
            show _ = _
            rw [← hM, numL, HN.out, hS, Int.toNat_natCast]
          have HM0 := Lib.hid hM
          have HSW := Lib.hid hSw
          have HO := Lib.hid hO
          have hbw := hB.size
          clear hM hS hSw hR hO
          go_wp2_with fail
          refine (cdigits_val w.heap.size _ N M S 3 _ HSW.out (by omega) (by omega) hbw (by have := HO.out; exact this) HM0.out 3 rfl).mono ?_
          rintro e w2 ⟨v', rfl, hO2, hB2⟩
          go_wp2
          go_ret
          have hE := HM.out
          subst hE
          obtain ⟨g2, cap2, rfl, h1, h2, h3, h4⟩ := hO2.form (by rw [numL_len]; omega)
          rw [numL_len] at h1 ⊢
          exact ⟨g2, cap2, rfl, h3, h1, h2, h4, hB.trans hB2⟩
end

section
/-! The code's chains: along, the closure that it tells, chain; a walk of the document. -/
open Go.RowKit

theorem cpair_val (a b y : D4) (w : World) (ha : a.ok) (hb : b.ok) (hT : TurnsOk w) (hy : pairS a b = y) : Calls Tryd.prog 48 #[.agg #[.int .u32 a.d0, .int .u32 a.d1, .int .u32 a.d2, .int .u32 a.d3], .agg #[.int .u32 b.d0, .int .u32 b.d1, .int .u32 b.d2, .int .u32 b.d3]] w fun e w' => e = .returned (.agg #[.int .u32 y.d0, .int .u32 y.d1, .int .u32 y.d2, .int .u32 y.d3]) ∧ Below w.heap.size w w' := by
  subst hy; exact cpair_any a b w ha hb hT
theorem rpair_val (a b y : D4) (w : World) (ha : a.ok) (hb : b.ok) (hy : pairS a b = y) : Calls Tryd.prog 42 #[.agg #[.int .u32 a.d0, .int .u32 a.d1, .int .u32 a.d2, .int .u32 a.d3], .agg #[.int .u32 b.d0, .int .u32 b.d1, .int .u32 b.d2, .int .u32 b.d3]] w fun e w' => e = .returned (.agg #[.int .u32 y.d0, .int .u32 y.d1, .int .u32 y.d2, .int .u32 y.d3]) ∧ Below w.heap.size w w' := by
  subst hy; exact rpair_any a b w ha hb
theorem cpair_step (a y : D4) (w : World) (ha : a.ok) (hT : TurnsOk w) (hy : pairS a oneD = y) : Calls Tryd.prog 48 #[.agg #[.int .u32 a.d0, .int .u32 a.d1, .int .u32 a.d2, .int .u32 a.d3], .agg #[.int .u32 0, .int .u32 0, .int .u32 0, .int .u32 1]] w fun e w' => e = .returned (.agg #[.int .u32 y.d0, .int .u32 y.d1, .int .u32 y.d2, .int .u32 y.d3]) ∧ Below w.heap.size w w' :=
  cpair_val a oneD y w ha oneD_ok hT hy
theorem rpair_step (a y : D4) (w : World) (ha : a.ok) (hy : pairS a oneD = y) : Calls Tryd.prog 42 #[.agg #[.int .u32 a.d0, .int .u32 a.d1, .int .u32 a.d2, .int .u32 a.d3], .agg #[.int .u32 0, .int .u32 0, .int .u32 0, .int .u32 1]] w fun e w' => e = .returned (.agg #[.int .u32 y.d0, .int .u32 y.d1, .int .u32 y.d2, .int .u32 y.d3]) ∧ Below w.heap.size w w' :=
  rpair_val a oneD y w ha oneD_ok hy

/-- What along tells: the closure, over a new block that holds the value. -/
def walker (b : Nat) : Value := .func (.func 74) #[] #[.pointer (some ⟨b, 0, none⟩)]
theorem calong_any (x : D4) (w : World) : Calls Tryd.prog 57 #[.agg #[.int .u32 x.d0, .int .u32 x.d1, .int .u32 x.d2, .int .u32 x.d3]] w fun e w' => e = .returned (walker w.heap.size) ∧ Arr .u32 24 w.heap.size x.toL w' ∧ Below w.heap.size w w' := by
  obtain ⟨w0, hw0⟩ : ∃ w0, w.alloc (.cells #[.int .u32 x.d0, .int .u32 x.d1, .int .u32 x.d2, .int .u32 x.d3] 24) = w0 := ⟨_, rfl⟩
  have hA0 : Arr .u32 24 w.heap.size x.toL w0 := by rw [← hw0]; exact heap_alloc_new w _
  have hB0 : Below w.heap.size w w0 := by rw [← hw0]; exact (Below.refl _ _).alloc (Nat.le_refl _) _
  have hmf : ∀ (fn : Fn) (first cap : Array Value) (w : World), (Instr.makeFunc fn first cap).run Tryd.prog w = .ok (.func fn first cap) w := fun _ _ _ _ => rfl
  go_enter Tryd.func57, Tryd.ntmps57
  go_wp2
  go_ret
  exact ⟨rfl, hA0, hB0⟩
theorem turns_far {w w' : World} {B : Nat} (h : TurnsOk w) (hg : 0 < B) (hB : Below B w w') : TurnsOk w' := tab_below h gTrn hg hB
set_option maxHeartbeats 2000000 in
set_option maxRecDepth 100000 in
/-- The closure: so many steps from the value in the block. -/
theorem cwalk_any (B b n : Nat) (x : D4) (w : World) (hx : x.ok) (hA : Arr .u32 24 b x.toL w) (hb : B ≤ b) (hT : TurnsOk w) (hg : 0 < B) (hn : n ≤ 1000) :
    Calls Tryd.prog 74 #[.int .i64 (n : Int), .pointer (some ⟨b, 0, none⟩)] w fun e w' => e = .returned (walkD x n).val ∧ Below B w w' := by
  have hbl := hA.lt
  obtain ⟨w0, hw0⟩ : ∃ w0, w.alloc (.cells #[.int .u32 0, .int .u32 0, .int .u32 0, .int .u32 0] 24) = w0 := ⟨_, rfl⟩
  obtain ⟨hR0, hB0⟩ := start4 w w0 hw0
  have hA0 := hA.on hB0
  have hT0 := hT.below hB0
  have hC0 : Below B w w0 := hB0.mono (by omega)
  have hs0 := hR0.lt
  clear hA hT hB0
  have HX := Lib.hid hx
  clear hx
  go_enter Tryd.func74, Tryd.ntmps74
  go_wp2_with fail
  clear hw0
  go_loopw [5] (fun i wr => ∃ k : Nat, k ≤ n ∧ i = .int .i64 (k : Int) ∧ Arr .u32 24 b (walkD x k).toL wr ∧ Arr .u32 24 w.heap.size [0, 0, 0, 0] wr ∧ TurnsOk wr ∧ Below B w wr) (fun i _ => n - (intOf i).toNat)
  case atStart => exact ⟨0, Nat.zero_le _, rfl, hA0, hR0, hT0, hC0⟩
  case round =>
    clear hA0 hR0 hT0 hC0
    obtain ⟨k, hk, rfl, hA, hR, hT, hC⟩ := hrel
    obtain ⟨y, hy⟩ : ∃ y, walkD x k = y := ⟨_, rfl⟩
    rw [hy] at hA
    obtain ⟨l0, l1, l2, l3⟩ := Arr.c4 hA
    by_cases hlt : k < n
    · have hkd : decide ((k : Int) < (n : Int)) = true := by simp; omega
      have hyo : y.ok := by rw [← hy]; exact walkD_ok HX.out k
      obtain ⟨z, hz⟩ : ∃ z, pairS y oneD = z := ⟨_, rfl⟩
      have HZ : Hid (walkD x (k + 1) = z) := by show _ = _; rw [walkD, hy, hz]
      have HZ0 := Lib.hid hz
      have HYO := Lib.hid hyo
      clear hy hz hyo
      go_wp2_with fail
      refine (cpair_step y z wr HYO.out hT HZ0.out).mono ?_
      rintro e w1 ⟨rfl, hD⟩
      have hA1 := hA.on hD
      have hR1 := hR.on hD
      have hT1 := hT.below hD
      have hC1 := hC.trans (hD.mono (by have := hA.lt; omega))
      have hbl1 := hA.lt
      clear hA hR hT hC hD l0 l1 l2 l3
      obtain ⟨k0, k1, k2, k3⟩ := Arr.c4 hA1
      obtain ⟨f0, f1, f2, f3⟩ := hA1.f4
      have hA2 := put4 (d := z) hA1 rfl
      have hR2 := far4 hR1 (show w.heap.size ≠ b by omega) z
      have hC2 := below_put4 hC1 hb z
      have hT2 := turns_far hT1 hg (below_put4 (Below.refl B w1) hb z)
      go_wp2_with fail
      generalize (((w1.setCell ⟨b, 0, none⟩ (.int .u32 z.d0)).setCell ⟨b, 1, none⟩ (.int .u32 z.d1)).setCell ⟨b, 2, none⟩ (.int .u32 z.d2)).setCell ⟨b, 3, none⟩ (.int .u32 z.d3) = w2 at *
      go_roundw
      case rel => exact ⟨k + 1, by omega, by go_num, by rw [HZ.out]; exact hA2, hR2, hT2, hC2⟩
      case measure => simp [intOf]; omega
    · have hkn : k = n := by omega
      subst hkn
      obtain ⟨b0, b1, b2, b3⟩ := Arr.c4 (d := zeroD) hR
      obtain ⟨f0, f1, f2, f3⟩ := hR.f4
      have hRf := put4 (d := y) hR rfl
      have hBf := below_put4 hC (show B ≤ w.heap.size by omega) y
      have HY := Lib.hid hy
      clear hy
      go_wp2_with fail
      generalize (((wr.setCell ⟨w.heap.size, 0, none⟩ (.int .u32 y.d0)).setCell ⟨w.heap.size, 1, none⟩ (.int .u32 y.d1)).setCell ⟨w.heap.size, 2, none⟩ (.int .u32 y.d2)).setCell ⟨w.heap.size, 3, none⟩ (.int .u32 y.d3) = wf at *
      obtain ⟨r0, r1, r2, r3⟩ := hRf.c4
      refine bodyPost_ret (v := y.val) (by simp [results, Tryd.results74, go_sem, D4.val, r0, r1, r2, r3]) rfl ⟨by rw [HY.out], hBf⟩
end

section
/-! The code's chain and public. -/
open Go.RowKit

theorem wrap_idx (i : Nat) (h : i ≤ 1000) : IntKind.u32.wrap (i : Int) = (i : Int) := by rw [IntKind.wrap_u32]; omega
set_option maxHeartbeats 2000000 in
set_option maxRecDepth 100000 in
theorem cchain_any (seed z : D4) (i : Nat) (w : World) (hs : seed.ok) (hi : i ≤ 1000) (hT : TurnsOk w) (hz : beginD seed i = z) :
    Calls Tryd.prog 53 #[.agg #[.int .u32 seed.d0, .int .u32 seed.d1, .int .u32 seed.d2, .int .u32 seed.d3], .int .i64 (i : Int)] w fun e w' => ∃ b, e = .returned (walker b) ∧ w.heap.size ≤ b ∧ Arr .u32 24 b z.toL w' ∧ Below w.heap.size w w' := by
  obtain ⟨w0, hw0⟩ : ∃ w0, w.alloc (.cells #[.int .u32 seed.d0, .int .u32 seed.d1, .int .u32 seed.d2, .int .u32 seed.d3] 24) = w0 := ⟨_, rfl⟩
  have hA0 : Arr .u32 24 w.heap.size seed.toL w0 := by rw [← hw0]; exact heap_alloc_new w _
  have hB0 : Below w.heap.size w w0 := by rw [← hw0]; exact (Below.refl _ _).alloc (Nat.le_refl _) _
  have hT0 := hT.below hB0
  have hwr := wrap_idx i hi
  have HZ : Hid (pairS seed (idxD i) = z) := hz
  obtain ⟨l0, l1, l2, l3⟩ := Arr.c4 hA0
  clear hT hz
  go_enter Tryd.func53, Tryd.ntmps53
  go_wp2_with fail
  clear hw0
  refine (cpair_val seed (idxD i) z w0 hs (idxD_ok (by omega)) hT0 HZ.out).mono ?_
  rintro e w1 ⟨rfl, hD⟩
  have hB1 := hB0.trans (hD.mono hB0.size)
  go_wp2_with fail
  refine (calong_any z w1).mono ?_
  rintro e w2 ⟨rfl, hA2, hE⟩
  have hB2 := hB1.trans (hE.mono hB1.size)
  go_wp2_with fail
  go_ret
  exact ⟨_, rfl, hB1.size, hA2, hB2⟩

theorem RdL.thr {w w' : World} {b o B : Nat} {l : List D4} (h : RdL w b o l) (hB : Below B w w') (hb : b < B) (hs : B ≤ w'.heap.size) : RdL w' b o l :=
  ⟨by omega, fun i hi => by
    obtain ⟨h0, h1, h2, h3⟩ := h.2 i hi
    exact ⟨by rw [hB.cell (p := ⟨b, _, none⟩) hb]; exact h0, by rw [hB.cell (p := ⟨b, _, none⟩) hb]; exact h1, by rw [hB.cell (p := ⟨b, _, none⟩) hb]; exact h2, by rw [hB.cell (p := ⟨b, _, none⟩) hb]; exact h3⟩⟩
theorem fold_next (l : List D4) (a : D4) (k : Nat) (h : k < l.length) : (l.take (k + 1)).foldl pairS a = pairS ((l.take k).foldl pairS a) (l.getD k zeroD) := by
  rw [List.take_add_one, List.foldl_append, List.getD_eq_getElem?_getD, List.getElem?_eq_getElem h]
  rfl
/-- Room for the result, and the first value in a block. -/
theorem start45 (a : D4) (w w0 : World) (h : (w.alloc (.cells #[.int .u32 0, .int .u32 0, .int .u32 0, .int .u32 0] 24)).alloc (.cells #[.int .u32 a.d0, .int .u32 a.d1, .int .u32 a.d2, .int .u32 a.d3] 24) = w0) :
    Arr .u32 24 w.heap.size [0, 0, 0, 0] w0 ∧ Arr .u32 24 (w.heap.size + 1) a.toL w0 ∧ Below w.heap.size w w0 := by
  subst h
  obtain ⟨w1, h1⟩ : ∃ w1, w.alloc (.cells #[.int .u32 0, .int .u32 0, .int .u32 0, .int .u32 0] 24) = w1 := ⟨_, rfl⟩
  have hA1 : Arr .u32 24 w.heap.size [0, 0, 0, 0] w1 := by rw [← h1]; exact heap_alloc_new w _
  have a1 : w1.heap.size = w.heap.size + 1 := by rw [← h1]; simp
  have B1 : Below w.heap.size w w1 := by rw [← h1]; exact (Below.refl _ _).alloc (Nat.le_refl _) _
  rw [h1]
  refine ⟨hA1.al _, ?_, B1.alloc (by omega) _⟩
  rw [← a1]
  exact heap_alloc_new w1 _
set_option maxHeartbeats 2000000 in
set_option maxRecDepth 100000 in
theorem cpublic_any (l : List D4) (v : D4) (b o n cap : Nat) (w : World) (hl : allD4 l) (hn : l.length = n) (hn1 : n ≤ 1000) (hr : RdL w b o l) (hc : n ≤ cap) (hm : cap ≤ maxLen) (hT : TurnsOk w) (hv : endsD l = v) :
    Calls Tryd.prog 58 #[.slice (some ⟨b, o, none⟩) n cap] w fun e w' => e = .returned v.val ∧ Below w.heap.size w w' := by
  unfold maxLen at hm
  obtain ⟨w0, hw0⟩ : ∃ w0, (w.alloc (.cells #[.int .u32 0, .int .u32 0, .int .u32 0, .int .u32 0] 24)).alloc (.cells #[.int .u32 0, .int .u32 0, .int .u32 0, .int .u32 0] 24) = w0 := ⟨_, rfl⟩
  obtain ⟨hRq, hKq, hBq⟩ := start45 zeroD w w0 hw0
  have hrq := hr.on hBq
  have hTq := hT.below hBq
  have hgT : 0 < w.heap.size := tab_low hT gTrn
  obtain ⟨k0, k1, k2, k3⟩ := Arr.c4 (d := zeroD) hKq
  obtain ⟨f0, f1, f2, f3⟩ := hKq.f4
  have hK0 := put4 (d := k35) hKq rfl
  have hR0 := far4 hRq (show w.heap.size ≠ w.heap.size + 1 by omega) k35
  have hB0 := below_put4 hBq (show w.heap.size ≤ w.heap.size + 1 by omega) k35
  have hT0 := turns_far hTq hgT (below_put4 (Below.refl w.heap.size w0) (show w.heap.size ≤ w.heap.size + 1 by omega) k35)
  have hbl := hr.1
  have hr0 : RdL ((((w0.setCell ⟨w.heap.size + 1, 0, none⟩ (.int .u32 k35.d0)).setCell ⟨w.heap.size + 1, 1, none⟩ (.int .u32 k35.d1)).setCell ⟨w.heap.size + 1, 2, none⟩ (.int .u32 k35.d2)).setCell ⟨w.heap.size + 1, 3, none⟩ (.int .u32 k35.d3)) b o l := hr.thr hB0 hbl hB0.size
  simp only [k35] at hK0 hR0 hB0 hT0 hr0
  clear hRq hKq hBq hrq hTq
  have HV := Lib.hid hv
  have HL := Lib.hid hl
  have HN := Lib.hid hn
  clear hr hT hv hl hn
  go_enter Tryd.func58, Tryd.ntmps58
  go_wp2_with fail
  clear hw0 k0 k1 k2 k3 f0 f1 f2 f3
  generalize (((w0.setCell ⟨w.heap.size + 1, 0, none⟩ (.int .u32 35)).setCell ⟨w.heap.size + 1, 1, none⟩ (.int .u32 0)).setCell ⟨w.heap.size + 1, 2, none⟩ (.int .u32 0)).setCell ⟨w.heap.size + 1, 3, none⟩ (.int .u32 0) = wz at *
  go_loopw [9] (fun i wr => ∃ k : Nat, k ≤ n ∧ i = .int .i64 (k : Int) ∧ Arr .u32 24 (w.heap.size + 1) ((l.take k).foldl pairS k35).toL wr ∧ Arr .u32 24 w.heap.size [0, 0, 0, 0] wr ∧ RdL wr b o l ∧ TurnsOk wr ∧ Below w.heap.size w wr) (fun i _ => n - (intOf i).toNat)
  case atStart => exact ⟨0, Nat.zero_le _, rfl, hK0, hR0, hr0, hT0, hB0⟩
  case round =>
    clear hK0 hR0 hr0 hT0 hB0
    obtain ⟨k, hk, rfl, hK, hR, hr, hT, hB⟩ := hrel
    obtain ⟨y, hy⟩ : ∃ y, (l.take k).foldl pairS k35 = y := ⟨_, rfl⟩
    rw [hy] at hK
    by_cases hlt : k < n
    · have hkd : decide ((k : Int) < (n : Int)) = true := by simp; omega
      have hkl : k < l.length := by have := HN.out; omega
      have hk0 : (0 : Int) ≤ (k : Int) := by omega
      have hk1 : (k : Int) < (n : Int) := by omega
      have hyo : y.ok := by rw [← hy]; exact foldl_ok _ _ k35_ok (HL.out.take k)
      obtain ⟨c0, c1, c2, c3⟩ := hr.2 k hkl
      obtain ⟨x, hx⟩ : ∃ x, l.getD k zeroD = x := ⟨_, rfl⟩
      have hxo : x.ok := by rw [← hx]; exact getD_ok HL.out k
      obtain ⟨z, hz⟩ : ∃ z, pairS y x = z := ⟨_, rfl⟩
      have HZ : Hid ((l.take (k + 1)).foldl pairS k35 = z) := by show _ = _; rw [fold_next l _ k hkl, hy, hx, hz]
      have HZ0 := Lib.hid hz
      rw [hx] at c0 c1 c2 c3
      obtain ⟨w2, hw2⟩ : ∃ w2, wr.alloc (.cells #[.int .u32 x.d0, .int .u32 x.d1, .int .u32 x.d2, .int .u32 x.d3] 24) = w2 := ⟨_, rfl⟩
      have hX2 : Arr .u32 24 wr.heap.size x.toL w2 := by rw [← hw2]; exact heap_alloc_new wr _
      have hD2 : Below wr.heap.size wr w2 := by rw [← hw2]; exact (Below.refl _ _).alloc (Nat.le_refl _) _
      have hK2 := hK.on hD2
      have hR2 := hR.on hD2
      have hr2 := hr.on hD2
      have hT2 := hT.below hD2
      have hB2 := hB.trans (hD2.mono hB.size)
      have HYO := Lib.hid hyo
      have HXO := Lib.hid hxo
      obtain ⟨l0, l1, l2, l3⟩ := Arr.c4 hK2
      obtain ⟨m0, m1, m2, m3⟩ := Arr.c4 hX2
      clear hy hz hyo hx hxo hK hR hr hT hB hD2 hX2
      go_wp2_with fail
      clear hw2
      refine (cpair_val y x z w2 HYO.out HXO.out hT2 HZ0.out).mono ?_
      rintro e w3 ⟨rfl, hD⟩
      have hK3 := hK2.on hD
      have hR3 := hR2.on hD
      have hr3 := hr2.on hD
      have hT3 := hT2.below hD
      have hB3 := hB2.trans (hD.mono hB2.size)
      clear hK2 hR2 hr2 hT2 hB2 hD l0 l1 l2 l3 m0 m1 m2 m3 c0 c1 c2 c3
      obtain ⟨k0, k1, k2, k3⟩ := Arr.c4 hK3
      obtain ⟨f0, f1, f2, f3⟩ := hK3.f4
      have hK4 := put4 (d := z) hK3 rfl
      have hR4 := far4 hR3 (show w.heap.size ≠ w.heap.size + 1 by omega) z
      have hB4' := below_put4 (Below.refl w.heap.size w3) (show w.heap.size ≤ w.heap.size + 1 by omega) z
      have hB4 := below_put4 hB3 (show w.heap.size ≤ w.heap.size + 1 by omega) z
      have hT4 := turns_far hT3 (show 0 < w.heap.size by exact hgT) (below_put4 (Below.refl w.heap.size w3) (show w.heap.size ≤ w.heap.size + 1 by omega) z)
      have hr4 := hr3.thr hB4' hbl (Nat.le_trans hB3.size hB4'.size)
      go_wp2_with fail
      generalize (((w3.setCell ⟨w.heap.size + 1, 0, none⟩ (.int .u32 z.d0)).setCell ⟨w.heap.size + 1, 1, none⟩ (.int .u32 z.d1)).setCell ⟨w.heap.size + 1, 2, none⟩ (.int .u32 z.d2)).setCell ⟨w.heap.size + 1, 3, none⟩ (.int .u32 z.d3) = w4 at *
      go_roundw
      case rel => exact ⟨k + 1, by omega, by go_num, by rw [HZ.out]; exact hK4, hR4, hr4, hT4, hB4⟩
      case measure => simp [intOf]; omega
    · have hkn : k = n := by omega
      subst hkn
      have HY : Hid (v = y) := by
        show _ = _
        rw [← hy, List.take_of_length_le (by have := HN.out; omega), ← HV.out, endsD]
      clear hy
      obtain ⟨l0, l1, l2, l3⟩ := Arr.c4 hK
      obtain ⟨b0, b1, b2, b3⟩ := Arr.c4 (d := zeroD) hR
      obtain ⟨f0, f1, f2, f3⟩ := hR.f4
      have hRf := put4 (d := y) hR rfl
      have hBf := below_put4 hB (Nat.le_refl _) y
      go_wp2_with fail
      generalize (((wr.setCell ⟨w.heap.size, 0, none⟩ (.int .u32 y.d0)).setCell ⟨w.heap.size, 1, none⟩ (.int .u32 y.d1)).setCell ⟨w.heap.size, 2, none⟩ (.int .u32 y.d2)).setCell ⟨w.heap.size, 3, none⟩ (.int .u32 y.d3) = wf at *
      obtain ⟨r0, r1, r2, r3⟩ := hRf.c4
      refine bodyPost_ret (v := y.val) (by simp [results, Tryd.results58, go_sem, D4.val, r0, r1, r2, r3]) rfl ⟨by rw [HY.out], hBf⟩
end

section
/-! Rows of digests that a call made and fills, one place at a time; the code's Public and Sign. -/
open Go.RowKit

theorem dCells_set : ∀ (l : List D4) (i : Nat) (d : D4), i < l.length → ((((dCells l).set (i * 4) (.int .u32 d.d0)).set (i * 4 + 1) (.int .u32 d.d1)).set (i * 4 + 2) (.int .u32 d.d2)).set (i * 4 + 3) (.int .u32 d.d3) = dCells (l.set i d)
  | [], i, d, h => absurd h (by simp)
  | _ :: r, 0, d, _ => rfl
  | a :: r, i + 1, d, h => by
    have := dCells_set r i d (by simpa using h)
    rw [show (i + 1) * 4 = i * 4 + 4 by omega]
    show _ = (.int .u32 a.d0 :: .int .u32 a.d1 :: .int .u32 a.d2 :: .int .u32 a.d3 :: dCells (r.set i d))
    rw [← this]
    rfl
theorem OwnsD.at {B g n cap : Nat} {l : List D4} {w : World} (h : OwnsD B (.slice (some ⟨g, 0, none⟩) n cap) l w) (hn : l.length = n) {i : Nat} (hi : i < l.length) : dgAt w g (i * 4) (l.getD i zeroD) := by
  subst hn
  obtain ⟨a0, a1, a2, a3⟩ := dCells_at l i hi
  exact ⟨by rw [World.ownsRow.cellAt h _ (by omega)]; exact a0, by rw [World.ownsRow.cellAt h _ (by omega)]; exact a1, by rw [World.ownsRow.cellAt h _ (by omega)]; exact a2, by rw [World.ownsRow.cellAt h _ (by omega)]; exact a3⟩
theorem OwnsD.fz {B g n cap : Nat} {l : List D4} {w : World} (h : OwnsD B (.slice (some ⟨g, 0, none⟩) n cap) l w) (hn : l.length = n) (j : Nat) : w.frozen? ⟨g, j, none⟩ = false := by
  subst hn
  exact World.ownsRow.frozenAt h j
theorem OwnsD.put {B g n cap : Nat} {l : List D4} {w : World} (h : OwnsD B (.slice (some ⟨g, 0, none⟩) n cap) l w) (hn : l.length = n) {i : Nat} (hi : i < l.length) (d : D4) :
    OwnsD B (.slice (some ⟨g, 0, none⟩) n cap) (l.set i d) ((((w.setCell ⟨g, i * 4, none⟩ (.int .u32 d.d0)).setCell ⟨g, i * 4 + 1, none⟩ (.int .u32 d.d1)).setCell ⟨g, i * 4 + 2, none⟩ (.int .u32 d.d2)).setCell ⟨g, i * 4 + 3, none⟩ (.int .u32 d.d3)) := by
  subst hn
  have h1 := (World.ownsRow.stored h (i * 4) (.int .u32 d.d0)).1
  have h2 := (World.ownsRow.stored h1 (i * 4 + 1) (.int .u32 d.d1)).1
  have h3 := (World.ownsRow.stored h2 (i * 4 + 2) (.int .u32 d.d2)).1
  have h4 := (World.ownsRow.stored h3 (i * 4 + 3) (.int .u32 d.d3)).1
  rw [dCells_set l i d hi] at h4
  unfold OwnsD
  rw [List.length_set]
  exact h4
theorem OwnsD.reads {B g n cap : Nat} {l : List D4} {w : World} (h : OwnsD B (.slice (some ⟨g, 0, none⟩) n cap) l w) (hn : l.length = n) (_hp : 0 < n) : RdL w g 0 l :=
  ⟨(World.ownsRow.lt h g rfl).2, fun i hi => by have := h.at hn hi; rw [Nat.zero_add]; exact this⟩
theorem below_row4 {B b j : Nat} {w w' : World} (h : Below B w w') (hb : B ≤ b) (d : D4) : Below B w ((((w'.setCell ⟨b, j, none⟩ (.int .u32 d.d0)).setCell ⟨b, j + 1, none⟩ (.int .u32 d.d1)).setCell ⟨b, j + 2, none⟩ (.int .u32 d.d2)).setCell ⟨b, j + 3, none⟩ (.int .u32 d.d3)) :=
  (((h.setCell (p := ⟨b, j, none⟩) hb _).setCell (p := ⟨b, j + 1, none⟩) hb _).setCell (p := ⟨b, j + 2, none⟩) hb _).setCell (p := ⟨b, j + 3, none⟩) hb _
/-- n places, the first k of them filled. -/
def fillR (f : Nat → D4) (n k : Nat) : List D4 := (List.range n).map fun t => if t < k then f t else zeroD
theorem fillR_len (f : Nat → D4) (n k : Nat) : (fillR f n k).length = n := by simp [fillR]
theorem fillR_full (f : Nat → D4) (n : Nat) : fillR f n n = mapR f n := by
  simp only [fillR, mapR]
  exact List.map_congr_left fun i hi => by simp [List.mem_range.mp hi]
theorem fillR_step (f : Nat → D4) (n k : Nat) : (fillR f n k).set k (f k) = fillR f n (k + 1) := by
  refine List.ext_getElem (by simp [fillR]) fun i h1 h2 => ?_
  simp only [fillR, List.getElem_set, List.getElem_map, List.getElem_range]
  by_cases e : k = i
  · subst e; simp
  · rw [if_neg e]
    by_cases q : i < k
    · rw [if_pos q, if_pos (by omega)]
    · rw [if_neg q, if_neg (by omega)]
theorem fillR_none (f : Nat → D4) (n : Nat) : fillR f n 0 = List.replicate n zeroD := by
  refine List.ext_getElem (by simp [fillR]) fun i h1 h2 => ?_
  simp [fillR]
theorem made35 (f : Nat → D4) : (madeCells (Value.agg #[.int .u32 0, .int .u32 0, .int .u32 0, .int .u32 0]).cells (35 * 4)).toList = dCells (fillR f 35 0) := by
  rw [fillR_none]; kernel_rfl
/-- A value boxed, and room for the result. -/
theorem start46 (x : D4) (w w0 : World) (h : (w.alloc (.cells #[.int .u32 x.d0, .int .u32 x.d1, .int .u32 x.d2, .int .u32 x.d3] 24)).alloc (.cells #[.int .u32 0, .int .u32 0, .int .u32 0, .int .u32 0] 24) = w0) :
    Arr .u32 24 w.heap.size x.toL w0 ∧ Arr .u32 24 (w.heap.size + 1) [0, 0, 0, 0] w0 ∧ Below w.heap.size w w0 := by
  subst h
  obtain ⟨w1, h1⟩ : ∃ w1, w.alloc (.cells #[.int .u32 x.d0, .int .u32 x.d1, .int .u32 x.d2, .int .u32 x.d3] 24) = w1 := ⟨_, rfl⟩
  have hA1 : Arr .u32 24 w.heap.size x.toL w1 := by rw [← h1]; exact heap_alloc_new w _
  have a1 : w1.heap.size = w.heap.size + 1 := by rw [← h1]; simp
  have B1 : Below w.heap.size w w1 := by rw [← h1]; exact (Below.refl _ _).alloc (Nat.le_refl _) _
  rw [h1]
  refine ⟨hA1.al _, ?_, B1.alloc (by omega) _⟩
  rw [← a1]
  exact heap_alloc_new w1 _
theorem cwalk_val (B b n : Nat) (m : Int) (x y : D4) (w : World) (hx : x.ok) (hA : Arr .u32 24 b x.toL w) (hb : B ≤ b) (hT : TurnsOk w) (hg : 0 < B) (hn : n ≤ 1000) (hm : (n : Int) = m) (hy : walkD x n = y) :
    Calls Tryd.prog 74 #[.int .i64 m, .pointer (some ⟨b, 0, none⟩)] w fun e w' => e = .returned (.agg #[.int .u32 y.d0, .int .u32 y.d1, .int .u32 y.d2, .int .u32 y.d3]) ∧ Below B w w' := by
  subst hm; subst hy; exact cwalk_any B b n x w hx hA hb hT hg hn

set_option maxHeartbeats 2000000 in
set_option maxRecDepth 100000 in
theorem cpub_any (seed v : D4) (w : World) (hs : seed.ok) (hT : TurnsOk w) (hv : publicD seed = v) :
    Calls Tryd.prog 49 #[.agg #[.int .u32 seed.d0, .int .u32 seed.d1, .int .u32 seed.d2, .int .u32 seed.d3]] w fun e w' => e = .returned v.val ∧ Below w.heap.size w w' := by
  obtain ⟨i0, hinf, hz0, hz1, hz2⟩ := info_parts info_dg
  obtain ⟨f, hf⟩ : ∃ f, (fun i => walkD (beginD seed i) 15) = f := ⟨_, rfl⟩
  have HV : Hid (endsD (mapR f 35) = v) := by show _ = _; rw [← hv, publicD, hf]
  have HF : Hid (∀ i, f i = walkD (beginD seed i) 15) := fun i => by rw [← hf]
  obtain ⟨w0, hw0⟩ : ∃ w0, (w.alloc (.cells #[.int .u32 seed.d0, .int .u32 seed.d1, .int .u32 seed.d2, .int .u32 seed.d3] 24)).alloc (.cells #[.int .u32 0, .int .u32 0, .int .u32 0, .int .u32 0] 24) = w0 := ⟨_, rfl⟩
  obtain ⟨hS0, hR0, hB0⟩ := start46 seed w w0 hw0
  have hT0 := hT.below hB0
  have hs1 := hS0.lt
  have hs2 := hR0.lt
  have hgT : 0 < w0.heap.size := tab_low hT0 gTrn
  clear hv hf hT
  go_enter Tryd.func49, Tryd.ntmps49
  go_wp2_with (at_make; refine wpList_make_full _ rfl _ _ 35 rfl w0.heap.size 24 i0 (.agg #[.int .u32 0, .int .u32 0, .int .u32 0, .int .u32 0]) 4 Tryd.underlying35 hinf hz0 hz1 .i64 .i64 _ _ 35 rfl rfl rfl rfl (by rw [hz2]; omega) (by unfold maxLen; omega) (Nat.le_refl _) ?_; intro w1 hown1 hg1)
  rw [made35 f] at hown1
  have hO1 : OwnsD w0.heap.size (.slice (some ⟨w0.heap.size, 0, none⟩) 35 35) (fillR f 35 0) w1 := by unfold OwnsD; rw [fillR_len]; exact hown1
  have hC1 : Below w0.heap.size w0 w1 := (Below.refl _ _).grown hg1 (Nat.le_refl _) (fun k hk => by cases hk)
  clear hown1 hg1 hw0
  go_loopw [8] (fun i wr => ∃ k : Nat, k ≤ 35 ∧ i = .int .i64 (k : Int) ∧ OwnsD w0.heap.size (.slice (some ⟨w0.heap.size, 0, none⟩) 35 35) (fillR f 35 k) wr ∧ Below w0.heap.size w0 wr) (fun i _ => 35 - (intOf i).toNat)
  case atStart => exact ⟨0, Nat.zero_le _, rfl, hO1, hC1⟩
  case round =>
    clear hO1 hC1
    obtain ⟨k, hk, rfl, hO, hC⟩ := hrel
    have hS := hS0.thr hC hs1
    have hTr := turns_far hT0 hgT hC
    obtain ⟨l0, l1, l2, l3⟩ := Arr.c4 hS
    by_cases hlt : k < 35
    · have hkd : decide ((k : Int) < 35) = true := by simp; omega
      have hk0 : (0 : Int) ≤ (k : Int) := by omega
      have hk1 : (k : Int) < 35 := by omega
      obtain ⟨z, hz⟩ : ∃ z, beginD seed k = z := ⟨_, rfl⟩
      have hzo : z.ok := by rw [← hz]; exact beginD_ok hs (by omega)
      obtain ⟨y, hy⟩ : ∃ y, walkD z 15 = y := ⟨_, rfl⟩
      have HY : Hid (f k = y) := by show _ = _; rw [HF.out k, hz, hy]
      have HZ0 := Lib.hid hz
      have HY0 := Lib.hid hy
      have HZO := Lib.hid hzo
      clear hz hy hzo
      go_wp2_with fail
      refine (cchain_any seed z k wr hs (by omega) hTr HZ0.out).mono ?_
      rintro e w1 ⟨b, rfl, hb, hA, hD⟩
      have hT1 := hTr.below hD
      have hgw : 0 < wr.heap.size := tab_low hTr gTrn
      unfold walker
      go_wp2_with fail
      refine (cwalk_val wr.heap.size b 15 15 z y w1 HZO.out hA hb hT1 hgw (by omega) rfl HY0.out).mono ?_
      rintro e w2 ⟨rfl, hE⟩
      have hD2 := hD.trans hE
      have hO2 := hO.on hD2
      have hC2 := hC.trans (hD2.mono hC.size)
      have hfl := fillR_len f 35 k
      clear hS hTr hA hD hT1 hE hO hC hD2 l0 l1 l2 l3
      obtain ⟨c0, c1, c2, c3⟩ := hO2.at hfl (i := k) (by omega)
      have f0 := hO2.fz hfl (k * 4)
      have f1 := hO2.fz hfl (k * 4 + 1)
      have f2 := hO2.fz hfl (k * 4 + 2)
      have f3 := hO2.fz hfl (k * 4 + 3)
      have hO3 := hO2.put hfl (i := k) (by omega) y
      have hC3 := below_row4 (j := k * 4) hC2 (Nat.le_refl _) y
      rw [← HY.out, fillR_step f 35 k, HY.out] at hO3
      clear hO2 hC2
      go_wp2_with fail
      generalize (((w2.setCell ⟨w0.heap.size, k * 4, none⟩ (.int .u32 y.d0)).setCell ⟨w0.heap.size, k * 4 + 1, none⟩ (.int .u32 y.d1)).setCell ⟨w0.heap.size, k * 4 + 2, none⟩ (.int .u32 y.d2)).setCell ⟨w0.heap.size, k * 4 + 3, none⟩ (.int .u32 y.d3) = w3 at *
      go_roundw
      case rel => exact ⟨k + 1, by omega, by go_num, hO3, hC3⟩
      case measure => simp [intOf]; omega
    · have hk35 : k = 35 := by omega
      subst hk35
      rw [fillR_full] at hO
      have hR := hR0.thr hC hs2
      have hB := hB0.trans (hC.mono hB0.size)
      have hml := mapR_len f 35
      have hrd := hO.reads hml (by omega)
      have hok : allD4 (mapR f 35) := mapR_ok fun i _ => by rw [HF.out i]; exact walkD_ok (beginD_ok hs (by omega)) _
      have HOK := Lib.hid hok
      have HML := Lib.hid hml
      clear hO hS hC l0 l1 l2 l3 hok hml
      go_wp2_with fail
      refine (cpublic_any (mapR f 35) v w0.heap.size 0 35 35 wr HOK.out HML.out (by omega) hrd (by omega) (by unfold maxLen; omega) hTr HV.out).mono ?_
      rintro e w2 ⟨rfl, hE⟩
      have hR2 := hR.on hE
      have hB2 := hB.trans (hE.mono hB.size)
      obtain ⟨b0, b1, b2, b3⟩ := Arr.c4 (d := zeroD) hR2
      obtain ⟨f0, f1, f2, f3⟩ := hR2.f4
      have hRf := put4 (d := v) hR2 rfl
      have hBf := below_put4 hB2 (show w.heap.size ≤ w.heap.size + 1 by omega) v
      clear hR hB hR2 hB2 hE hrd
      simp only [D4.val]
      go_wp2_with fail
      generalize (((w2.setCell ⟨w.heap.size + 1, 0, none⟩ (.int .u32 v.d0)).setCell ⟨w.heap.size + 1, 1, none⟩ (.int .u32 v.d1)).setCell ⟨w.heap.size + 1, 2, none⟩ (.int .u32 v.d2)).setCell ⟨w.heap.size + 1, 3, none⟩ (.int .u32 v.d3) = wf at *
      obtain ⟨r0, r1, r2, r3⟩ := hRf.c4
      refine bodyPost_ret (v := v.val) (by simp [results, Tryd.results49, go_sem, D4.val, r0, r1, r2, r3]) rfl ⟨rfl, hBf⟩
end

section
/-! The code's Sign and Reach. -/
open Go.RowKit

theorem RdN.far4 {w : World} {g b j : Nat} {l : List Nat} (h : RdN w g l) (hne : g ≠ b) (d : D4) : RdN ((((w.setCell ⟨b, j, none⟩ (.int .u32 d.d0)).setCell ⟨b, j + 1, none⟩ (.int .u32 d.d1)).setCell ⟨b, j + 2, none⟩ (.int .u32 d.d2)).setCell ⟨b, j + 3, none⟩ (.int .u32 d.d3)) g l := by
  refine ⟨by have := h.1; simpa using this, fun i hi => ?_⟩
  have hx : ∀ o, (⟨b, o, none⟩ : Addr) ≠ ⟨g, i, none⟩ := fun o e => hne (by injection e with e1; exact e1.symm)
  rw [World.cell?_setCell_other _ _ _ _ (hx _), World.cell?_setCell_other _ _ _ _ (hx _), World.cell?_setCell_other _ _ _ _ (hx _), World.cell?_setCell_other _ _ _ _ (hx _)]
  exact h.2 i hi
/-- Two values boxed. -/
theorem start47 (x y : D4) (w w0 : World) (h : (w.alloc (.cells #[.int .u32 x.d0, .int .u32 x.d1, .int .u32 x.d2, .int .u32 x.d3] 24)).alloc (.cells #[.int .u32 y.d0, .int .u32 y.d1, .int .u32 y.d2, .int .u32 y.d3] 24) = w0) :
    Arr .u32 24 w.heap.size x.toL w0 ∧ Arr .u32 24 (w.heap.size + 1) y.toL w0 ∧ Below w.heap.size w w0 := by
  subst h
  obtain ⟨w1, h1⟩ : ∃ w1, w.alloc (.cells #[.int .u32 x.d0, .int .u32 x.d1, .int .u32 x.d2, .int .u32 x.d3] 24) = w1 := ⟨_, rfl⟩
  have hA1 : Arr .u32 24 w.heap.size x.toL w1 := by rw [← h1]; exact heap_alloc_new w _
  have a1 : w1.heap.size = w.heap.size + 1 := by rw [← h1]; simp
  have B1 : Below w.heap.size w w1 := by rw [← h1]; exact (Below.refl _ _).alloc (Nat.le_refl _) _
  rw [h1]
  refine ⟨hA1.al _, ?_, B1.alloc (by omega) _⟩
  rw [← a1]
  exact heap_alloc_new w1 _
theorem csteps_val (d : D4) (N : List Nat) (w : World) (hd : d.ok) (hN : numL d = N) :
    Calls Tryd.prog 52 #[.agg #[.int .u32 d.d0, .int .u32 d.d1, .int .u32 d.d2, .int .u32 d.d3]] w fun e w' => ∃ g cap, e = .returned (.slice (some ⟨g, 0, none⟩) 35 cap) ∧ w.heap.size ≤ g ∧ 35 ≤ cap ∧ cap ≤ maxLen ∧ RdN w' g N ∧ Below w.heap.size w w' := by
  subst hN; exact csteps_any d w hd

set_option maxHeartbeats 2000000 in
set_option maxRecDepth 100000 in
theorem csign_any (seed msg : D4) (L : List D4) (w : World) (hs : seed.ok) (hmo : msg.ok) (hT : TurnsOk w) (hL : signL seed msg = L) :
    Calls Tryd.prog 31 #[.agg #[.int .u32 seed.d0, .int .u32 seed.d1, .int .u32 seed.d2, .int .u32 seed.d3], .agg #[.int .u32 msg.d0, .int .u32 msg.d1, .int .u32 msg.d2, .int .u32 msg.d3]] w fun e w' => ∃ g, e = .returned (.slice (some ⟨g, 0, none⟩) 35 35) ∧ w.heap.size ≤ g ∧ RdL w' g 0 L ∧ Below w.heap.size w w' := by
  obtain ⟨i0, hinf, hz0, hz1, hz2⟩ := info_parts info_dg
  obtain ⟨N, hN⟩ : ∃ N, numL msg = N := ⟨_, rfl⟩
  have hNl : N.length = 35 := by rw [← hN, numL_len]
  have HNl : Hid (∀ i, num msg i = N.getD i 0) := fun i => by rw [num, hN]
  have HNe := Lib.hid hN
  obtain ⟨f, hf⟩ : ∃ f, (fun i => walkD (beginD seed i) (num msg i)) = f := ⟨_, rfl⟩
  have HV : Hid (mapR f 35 = L) := by show _ = _; rw [← hL, signL, hf]
  have HF : Hid (∀ i, f i = walkD (beginD seed i) (num msg i)) := fun i => by rw [← hf]
  obtain ⟨w0, hw0⟩ : ∃ w0, (w.alloc (.cells #[.int .u32 seed.d0, .int .u32 seed.d1, .int .u32 seed.d2, .int .u32 seed.d3] 24)).alloc (.cells #[.int .u32 msg.d0, .int .u32 msg.d1, .int .u32 msg.d2, .int .u32 msg.d3] 24) = w0 := ⟨_, rfl⟩
  obtain ⟨hS0, hR0, hB0⟩ := start47 seed msg w w0 hw0
  have hT0 := hT.below hB0
  have hs1 := hS0.lt
  have hs2 := hR0.lt
  have hgT : 0 < w0.heap.size := tab_low hT0 gTrn
  clear hL hf hT hN
  go_enter Tryd.func31, Tryd.ntmps31
  go_wp2_with (at_make; refine wpList_make_full _ rfl _ _ 36 rfl w0.heap.size 24 i0 (.agg #[.int .u32 0, .int .u32 0, .int .u32 0, .int .u32 0]) 4 Tryd.underlying36 hinf hz0 hz1 .i64 .i64 _ _ 35 rfl rfl rfl rfl (by rw [hz2]; omega) (by unfold maxLen; omega) (Nat.le_refl _) ?_; intro w1 hown1 hg1; have hC1 : Below w0.heap.size w0 w1 := (Below.refl _ _).grown hg1 (Nat.le_refl _) (fun k hk => by cases hk); obtain ⟨m0, m1, m2, m3⟩ := Arr.c4 (hR0.on hC1))
  rw [made35 f] at hown1
  have hO1 : OwnsD w0.heap.size (.slice (some ⟨w0.heap.size, 0, none⟩) 35 35) (fillR f 35 0) w1 := by unfold OwnsD; rw [fillR_len]; exact hown1
  have hgl1 := (World.ownsRow.lt hown1 w0.heap.size rfl).2
  clear hown1 hg1 hw0
  refine (csteps_val msg N w1 hmo HNe.out).mono ?_
  rintro e w2 ⟨g, cap, rfl, hgl, hcap, hcm, hRN, hD⟩
  have hO2 := hO1.on hD
  have hC2 := hC1.trans (hD.mono hC1.size)
  clear hO1 hC1 hD m0 m1 m2 m3
  go_wp2_with fail
  go_loopw [12] (fun i wr => ∃ k : Nat, k ≤ 35 ∧ i = .int .i64 (k : Int) ∧ OwnsD w0.heap.size (.slice (some ⟨w0.heap.size, 0, none⟩) 35 35) (fillR f 35 k) wr ∧ RdN wr g N ∧ Below w0.heap.size w0 wr) (fun i _ => 35 - (intOf i).toNat)
  case atStart => exact ⟨0, Nat.zero_le _, rfl, hO2, hRN, hC2⟩
  case round =>
    clear hO2 hC2 hRN
    obtain ⟨k, hk, rfl, hO, hRN, hC⟩ := hrel
    have hS := hS0.thr hC hs1
    have hTr := turns_far hT0 hgT hC
    obtain ⟨l0, l1, l2, l3⟩ := Arr.c4 hS
    by_cases hlt : k < 35
    · have hkd : decide ((k : Int) < 35) = true := by simp; omega
      have hk0 : (0 : Int) ≤ (k : Int) := by omega
      have hk1 : (k : Int) < 35 := by omega
      have hcN := hRN.2 k (by omega)
      have hn15 := num_le msg k
      rw [HNl.out k] at hn15
      obtain ⟨n, hn⟩ : ∃ n, N.getD k 0 = n := ⟨_, rfl⟩
      rw [hn] at hcN hn15
      obtain ⟨z, hz⟩ : ∃ z, beginD seed k = z := ⟨_, rfl⟩
      have hzo : z.ok := by rw [← hz]; exact beginD_ok hs (by omega)
      obtain ⟨y, hy⟩ : ∃ y, walkD z n = y := ⟨_, rfl⟩
      have HY : Hid (f k = y) := by show _ = _; rw [HF.out k, HNl.out k, hn, hz, hy]
      have HZ0 := Lib.hid hz
      have HY0 := Lib.hid hy
      have HZO := Lib.hid hzo
      clear hz hy hzo hn
      go_wp2_with fail
      refine (cchain_any seed z k wr hs (by omega) hTr HZ0.out).mono ?_
      rintro e w1 ⟨b, rfl, hb, hA, hD⟩
      have hT1 := hTr.below hD
      have hgw : 0 < wr.heap.size := tab_low hTr gTrn
      unfold walker
      go_wp2_with fail
      refine (cwalk_val wr.heap.size b n n z y w1 HZO.out hA hb hT1 hgw (by omega) rfl HY0.out).mono ?_
      rintro e w2 ⟨rfl, hE⟩
      have hD2 := hD.trans hE
      have hO2 := hO.on hD2
      have hRN2 := hRN.on hD2
      have hC2 := hC.trans (hD2.mono hC.size)
      have hfl := fillR_len f 35 k
      clear hS hTr hA hD hT1 hE hO hC hD2 l0 l1 l2 l3 hRN hcN
      obtain ⟨c0, c1, c2, c3⟩ := hO2.at hfl (i := k) (by omega)
      have f0 := hO2.fz hfl (k * 4)
      have f1 := hO2.fz hfl (k * 4 + 1)
      have f2 := hO2.fz hfl (k * 4 + 2)
      have f3 := hO2.fz hfl (k * 4 + 3)
      have hO3 := hO2.put hfl (i := k) (by omega) y
      have hC3 := below_row4 (j := k * 4) hC2 (Nat.le_refl _) y
      have hRN3 := hRN2.far4 (b := w0.heap.size) (j := k * 4) (by omega) y
      rw [← HY.out, fillR_step f 35 k, HY.out] at hO3
      clear hO2 hC2 hRN2
      go_wp2_with fail
      generalize (((w2.setCell ⟨w0.heap.size, k * 4, none⟩ (.int .u32 y.d0)).setCell ⟨w0.heap.size, k * 4 + 1, none⟩ (.int .u32 y.d1)).setCell ⟨w0.heap.size, k * 4 + 2, none⟩ (.int .u32 y.d2)).setCell ⟨w0.heap.size, k * 4 + 3, none⟩ (.int .u32 y.d3) = w3 at *
      go_roundw
      case rel => exact ⟨k + 1, by omega, by go_num, hO3, hRN3, hC3⟩
      case measure => simp [intOf]; omega
    · have hk35 : k = 35 := by omega
      subst hk35
      rw [fillR_full] at hO
      have hB := hB0.trans (hC.mono hB0.size)
      have hml := mapR_len f 35
      have hrd := hO.reads hml (by omega)
      rw [HV.out] at hrd
      clear hO hS hC l0 l1 l2 l3 hml
      go_wp2_with fail
      go_ret
      exact ⟨_, rfl, hB0.size, hrd, hB⟩
end

section
/-! The code's Reach and Check. -/
open Go.RowKit

set_option maxHeartbeats 2000000 in
set_option maxRecDepth 100000 in
theorem creach_yes (msg v : D4) (S : List D4) (bs o scap : Nat) (w : World) (hmo : msg.ok) (hSo : allD4 S) (hSl : S.length = 35) (hr : RdL w bs o S) (_hsc : 35 ≤ scap) (_hscm : scap ≤ maxLen) (hT : TurnsOk w) (hv : reachD msg S = v) :
    Calls Tryd.prog 36 #[.agg #[.int .u32 msg.d0, .int .u32 msg.d1, .int .u32 msg.d2, .int .u32 msg.d3], .slice (some ⟨bs, o, none⟩) 35 scap] w fun e w' => e = .returned (.tuple #[v.val, .bool true]) ∧ Below w.heap.size w w' := by
  obtain ⟨i0, hinf, hz0, hz1, hz2⟩ := info_parts info_dg
  have hbl := hr.1
  unfold maxLen at _hscm
  obtain ⟨N, hN⟩ : ∃ N, numL msg = N := ⟨_, rfl⟩
  have hNl : N.length = 35 := by rw [← hN, numL_len]
  have HNl : Hid (∀ i, num msg i = N.getD i 0) := fun i => by rw [num, hN]
  have HNe := Lib.hid hN
  obtain ⟨f, hf⟩ : ∃ f, (fun i => walkD (S.getD i zeroD) (15 - num msg i)) = f := ⟨_, rfl⟩
  have HV : Hid (endsD (mapR f 35) = v) := by show _ = _; rw [← hv, reachD, hf]
  have HF : Hid (∀ i, f i = walkD (S.getD i zeroD) (15 - num msg i)) := fun i => by rw [← hf]
  obtain ⟨w0, hw0⟩ : ∃ w0, (w.alloc (.cells #[.int .u32 msg.d0, .int .u32 msg.d1, .int .u32 msg.d2, .int .u32 msg.d3] 24)).alloc (.cells #[.int .u32 0, .int .u32 0, .int .u32 0, .int .u32 0] 24) = w0 := ⟨_, rfl⟩
  obtain ⟨hM0, hR0, hB0⟩ := start46 msg w w0 hw0
  have hT0 := hT.below hB0
  have hr0 := hr.on hB0
  have hs1 := hM0.lt
  have hs2 := hR0.lt
  have hgT : 0 < w0.heap.size := tab_low hT0 gTrn
  have HSo := Lib.hid hSo
  have HSl := Lib.hid hSl
  clear hv hf hT hN hr hSo hSl
  go_enter Tryd.func36, Tryd.ntmps36
  go_wp2_with (at_make; refine wpList_make_full _ rfl _ _ 35 rfl w0.heap.size 24 i0 (.agg #[.int .u32 0, .int .u32 0, .int .u32 0, .int .u32 0]) 4 Tryd.underlying35 hinf hz0 hz1 .i64 .i64 _ _ 35 rfl rfl rfl rfl (by rw [hz2]; omega) (by unfold maxLen; omega) (Nat.le_refl _) ?_; intro w1 hown1 hg1; have hC1 : Below w0.heap.size w0 w1 := (Below.refl _ _).grown hg1 (Nat.le_refl _) (fun k hk => by cases hk); obtain ⟨m0, m1, m2, m3⟩ := Arr.c4 (hM0.on hC1))
  rw [made35 f] at hown1
  have hO1 : OwnsD w0.heap.size (.slice (some ⟨w0.heap.size, 0, none⟩) 35 35) (fillR f 35 0) w1 := by unfold OwnsD; rw [fillR_len]; exact hown1
  have hgl1 := (World.ownsRow.lt hown1 w0.heap.size rfl).2
  clear hown1 hg1 hw0
  refine (csteps_val msg N w1 hmo HNe.out).mono ?_
  rintro e w2 ⟨g, cap, rfl, hgl, hcap, hcm, hRN, hD⟩
  have hO2 := hO1.on hD
  have hC2 := hC1.trans (hD.mono hC1.size)
  clear hO1 hC1 hD m0 m1 m2 m3
  go_wp2_with fail
  go_loopw [17] (fun i wr => ∃ k : Nat, k ≤ 35 ∧ i = .int .i64 (k : Int) ∧ OwnsD w0.heap.size (.slice (some ⟨w0.heap.size, 0, none⟩) 35 35) (fillR f 35 k) wr ∧ RdN wr g N ∧ Below w0.heap.size w0 wr) (fun i _ => 35 - (intOf i).toNat)
  case atStart => exact ⟨0, Nat.zero_le _, rfl, hO2, hRN, hC2⟩
  case round =>
    clear hO2 hC2 hRN
    obtain ⟨k, hk, rfl, hO, hRN, hC⟩ := hrel
    have hTr := turns_far hT0 hgT hC
    by_cases hlt : k < 35
    · have hkd : decide ((k : Int) < 35) = true := by simp; omega
      have hk0 : (0 : Int) ≤ (k : Int) := by omega
      have hk1 : (k : Int) < 35 := by omega
      have hcN := hRN.2 k (by omega)
      have hn15 := num_le msg k
      rw [HNl.out k] at hn15
      obtain ⟨n, hn⟩ : ∃ n, N.getD k 0 = n := ⟨_, rfl⟩
      rw [hn] at hcN hn15
      have hrk := hr0.thr hC (by omega) (Nat.le_trans (Nat.le_refl _) hC.size)
      obtain ⟨l0, l1, l2, l3⟩ := hrk.2 k (by rw [HSl.out]; exact hlt)
      obtain ⟨z, hz⟩ : ∃ z, S.getD k zeroD = z := ⟨_, rfl⟩
      have hzo : z.ok := by rw [← hz]; exact getD_ok HSo.out k
      obtain ⟨y, hy⟩ : ∃ y, walkD z (15 - n) = y := ⟨_, rfl⟩
      have HY : Hid (f k = y) := by show _ = _; rw [HF.out k, HNl.out k, hn, hz, hy]
      rw [hz] at l0 l1 l2 l3
      have HY0 := Lib.hid hy
      have HZO := Lib.hid hzo
      have hwrap : IntKind.i64.wrap (15 - (n : Int)) = 15 - (n : Int) := IntWalk.i64_in _ (by omega)
      clear hz hy hzo hn hrk
      go_wp2_with fail
      refine (calong_any z wr).mono ?_
      rintro e w1 ⟨rfl, hA, hD⟩
      have hT1 := hTr.below hD
      have hgw : 0 < wr.heap.size := tab_low hTr gTrn
      unfold walker
      go_wp2_with fail
      refine (cwalk_val wr.heap.size wr.heap.size (15 - n) _ z y w1 HZO.out hA (Nat.le_refl _) hT1 hgw (by omega) (by omega) HY0.out).mono ?_
      rintro e w2 ⟨rfl, hE⟩
      have hD2 := hD.trans hE
      have hO2 := hO.on hD2
      have hRN2 := hRN.on hD2
      have hC2 := hC.trans (hD2.mono hC.size)
      have hfl := fillR_len f 35 k
      clear hTr hA hD hT1 hE hO hC hD2 l0 l1 l2 l3 hRN hcN hwrap
      obtain ⟨c0, c1, c2, c3⟩ := hO2.at hfl (i := k) (by omega)
      have f0 := hO2.fz hfl (k * 4)
      have f1 := hO2.fz hfl (k * 4 + 1)
      have f2 := hO2.fz hfl (k * 4 + 2)
      have f3 := hO2.fz hfl (k * 4 + 3)
      have hO3 := hO2.put hfl (i := k) (by omega) y
      have hC3 := below_row4 (j := k * 4) hC2 (Nat.le_refl _) y
      have hRN3 := hRN2.far4 (b := w0.heap.size) (j := k * 4) (by omega) y
      rw [← HY.out, fillR_step f 35 k, HY.out] at hO3
      clear hO2 hC2 hRN2
      go_wp2_with fail
      generalize (((w2.setCell ⟨w0.heap.size, k * 4, none⟩ (.int .u32 y.d0)).setCell ⟨w0.heap.size, k * 4 + 1, none⟩ (.int .u32 y.d1)).setCell ⟨w0.heap.size, k * 4 + 2, none⟩ (.int .u32 y.d2)).setCell ⟨w0.heap.size, k * 4 + 3, none⟩ (.int .u32 y.d3) = w3 at *
      go_roundw
      case rel => exact ⟨k + 1, by omega, by go_num, hO3, hRN3, hC3⟩
      case measure => simp [intOf]; omega
    · have hk35 : k = 35 := by omega
      subst hk35
      rw [fillR_full] at hO
      have hR := hR0.thr hC hs2
      have hB := hB0.trans (hC.mono hB0.size)
      have hml := mapR_len f 35
      have hrd := hO.reads hml (by omega)
      have hok : allD4 (mapR f 35) := mapR_ok fun i _ => by rw [HF.out i]; exact walkD_ok (getD_ok HSo.out i) _
      have HOK := Lib.hid hok
      have HML := Lib.hid hml
      clear hO hC hok hml hRN
      go_wp2_with fail
      refine (cpublic_any (mapR f 35) v w0.heap.size 0 35 35 wr HOK.out HML.out (by omega) hrd (by omega) (by unfold maxLen; omega) hTr HV.out).mono ?_
      rintro e w2 ⟨rfl, hE⟩
      have hR2 := hR.on hE
      have hB2 := hB.trans (hE.mono hB.size)
      obtain ⟨b0, b1, b2, b3⟩ := Arr.c4 (d := zeroD) hR2
      obtain ⟨f0, f1, f2, f3⟩ := hR2.f4
      have hRf := put4 (d := v) hR2 rfl
      have hBf := below_put4 hB2 (show w.heap.size ≤ w.heap.size + 1 by omega) v
      clear hR hB hR2 hB2 hE hrd
      simp only [D4.val]
      go_wp2_with fail
      generalize (((w2.setCell ⟨w.heap.size + 1, 0, none⟩ (.int .u32 v.d0)).setCell ⟨w.heap.size + 1, 1, none⟩ (.int .u32 v.d1)).setCell ⟨w.heap.size + 1, 2, none⟩ (.int .u32 v.d2)).setCell ⟨w.heap.size + 1, 3, none⟩ (.int .u32 v.d3) = wf at *
      obtain ⟨r0, r1, r2, r3⟩ := hRf.c4
      refine bodyPost_ret (v := .tuple #[v.val, .bool true]) (by simp [results, Tryd.results36, go_sem, D4.val, r0, r1, r2, r3]) rfl ⟨rfl, hBf⟩
set_option maxHeartbeats 2000000 in
set_option maxRecDepth 100000 in
theorem creach_no (msg : D4) (p : Option Addr) (n scap : Nat) (w : World) (hn : n ≠ 35) :
    Calls Tryd.prog 36 #[.agg #[.int .u32 msg.d0, .int .u32 msg.d1, .int .u32 msg.d2, .int .u32 msg.d3], .slice p n scap] w fun e w' => e = .returned (.tuple #[zeroD.val, .bool false]) ∧ Below w.heap.size w w' := by
  have hne : ((n : Int) != 35) = true := by simp; omega
  have hne2 : ((n : Int) == 35) = false := by simp; omega
  obtain ⟨w0, hw0⟩ : ∃ w0, (w.alloc (.cells #[.int .u32 msg.d0, .int .u32 msg.d1, .int .u32 msg.d2, .int .u32 msg.d3] 24)).alloc (.cells #[.int .u32 0, .int .u32 0, .int .u32 0, .int .u32 0] 24) = w0 := ⟨_, rfl⟩
  obtain ⟨hM0, hR0, hB0⟩ := start46 msg w w0 hw0
  obtain ⟨b0, b1, b2, b3⟩ := Arr.c4 (d := zeroD) hR0
  obtain ⟨f0, f1, f2, f3⟩ := hR0.f4
  have hRf := put4 (d := zeroD) hR0 rfl
  have hBf := below_put4 hB0 (show w.heap.size ≤ w.heap.size + 1 by omega) zeroD
  simp only [zeroD] at b0 b1 b2 b3 hRf hBf
  go_enter Tryd.func36, Tryd.ntmps36
  go_wp2_with fail
  generalize (((w0.setCell ⟨w.heap.size + 1, 0, none⟩ (.int .u32 0)).setCell ⟨w.heap.size + 1, 1, none⟩ (.int .u32 0)).setCell ⟨w.heap.size + 1, 2, none⟩ (.int .u32 0)).setCell ⟨w.heap.size + 1, 3, none⟩ (.int .u32 0) = wf at *
  obtain ⟨r0, r1, r2, r3⟩ := hRf.c4
  simp only at r0 r1 r2 r3
  refine bodyPost_ret (v := .tuple #[zeroD.val, .bool false]) (by simp [results, Tryd.results36, go_sem, D4.val, zeroD, r0, r1, r2, r3]) rfl ⟨rfl, hBf⟩
/-- What Reach answers: with whatever values. -/
def reachV (msg : D4) (S : List D4) : D4 := if S.length = 35 then reachD msg S else zeroD
def is35 (S : List D4) : Bool := decide (S.length = 35)
theorem creach_any (msg v : D4) (S : List D4) (g : Bool) (p : Option Addr) (n scap : Nat) (w : World) (hmo : msg.ok) (hSo : allD4 S) (hn : n = S.length) (hr : RdS w p S) (hsc : S.length ≤ scap) (hscm : scap ≤ maxLen) (hT : TurnsOk w) (hv : reachV msg S = v) (hg : is35 S = g) :
    Calls Tryd.prog 36 #[.agg #[.int .u32 msg.d0, .int .u32 msg.d1, .int .u32 msg.d2, .int .u32 msg.d3], .slice p n scap] w fun e w' => e = .returned (.tuple #[.agg #[.int .u32 v.d0, .int .u32 v.d1, .int .u32 v.d2, .int .u32 v.d3], .bool g]) ∧ Below w.heap.size w w' := by
  subst hn; subst hg
  by_cases h : S.length = 35
  · rw [reachV, if_pos h] at hv
    obtain ⟨b, o, rfl, hrd⟩ := hr (by intro e; subst e; simp at h)
    rw [is35, decide_eq_true h, h]
    exact creach_yes msg v S b o scap w hmo hSo h hrd (by omega) hscm hT hv
  · rw [reachV, if_neg h] at hv
    subst hv
    rw [is35, decide_eq_false h]
    exact creach_no msg p S.length scap w h
end

end Go.Proofs.YtdphhpmkcalahaaDoor
