/-
  Layer 3, as later layers want it: mixing, of the document and of the code; a block taken in.
-/
import Derived.Test.YtdphhpmkcalahaaDoorWdC
import Derived.Deep.RegionHeld3
import Derived.Lib.SmallJoins
import Derived.StillTailTactics
import Derived.Laws.Cover3
namespace Go.Proofs.YtdphhpmkcalahaaDoor

section
/-! Plain mathematics of mixed states: one round, its way back, eight of them. No program is named here. -/
/-- Eight words. -/
structure S8 where
  (x0 x1 x2 x3 x4 x5 x6 x7 : Int)
/-- Is it a word? -/
def isW (a : Int) : Prop := 0 ≤ a ∧ a < 4294967296
def S8.ok (s : S8) : Prop := isW s.x0 ∧ isW s.x1 ∧ isW s.x2 ∧ isW s.x3 ∧ isW s.x4 ∧ isW s.x5 ∧ isW s.x6 ∧ isW s.x7
/-- Exclusive or, sum, difference of words. -/
def xw (a b : Int) : Int := ((a.toNat ^^^ b.toNat : Nat) : Int)
def aw (a b : Int) : Int := (a + b) % 4294967296
def dw (a b : Int) : Int := (a - b) % 4294967296
theorem xw_bd {a b : Int} (ha : isW a) (hb : isW b) : isW (xw a b) := by
  unfold isW xw at *
  have h := Nat.xor_lt_two_pow (n := 32) (x := a.toNat) (y := b.toNat) (by omega) (by omega)
  omega
theorem aw_bd (a b : Int) : isW (aw a b) := by unfold isW aw; omega
theorem dw_bd (a b : Int) : isW (dw a b) := by unfold isW dw; omega
theorem rot_bd {a : Int} (ha : isW a) (n : Int) : isW (rotI a n) := rotI_bd a n ha.2
theorem xw_back {a b : Int} (ha : isW a) (_hb : isW b) : xw (xw a b) b = a := by
  unfold isW at ha
  unfold xw
  rw [Int.toNat_natCast, Nat.xor_assoc, Nat.xor_self, Nat.xor_zero]
  omega
theorem dw_aw {a b : Int} (ha : isW a) (_hb : isW b) : dw (aw a b) b = a := by unfold isW dw aw at *; omega
theorem aw_dw {a b : Int} (ha : isW a) (_hb : isW b) : aw (dw a b) b = a := by unfold isW dw aw at *; omega
theorem rot_add (a i j : Int) (ha : isW a) (h : (i + j) % 32 = 0) : rotI (rotI a i) j = a := by
  unfold isW at ha
  unfold rotI
  rw [Int.toNat_natCast, rotN_add, rotN_mod _ _ (by omega)]
  have e : ((i % 32).toNat + (j % 32).toNat) % 32 = 0 := by omega
  rw [e]
  show ((a.toNat : Nat) : Int) = a
  omega
theorem rot_back {a : Int} (n : Int) (ha : isW a) : rotI (rotI a n) (-n) = a := rot_add a n (-n) ha (by omega)
theorem rot_forth {a : Int} (n : Int) (ha : isW a) : rotI (rotI a (-n)) n = a := rot_add a (-n) n ha (by omega)

/-- A pair of words, a step on: the sum; what is turned. And back. -/
def qa (a b : Int) : Int := aw a b
def qb (k a b : Int) : Int := rotI (xw b (aw a b)) k
def pb (k a b : Int) : Int := xw (rotI b (-k)) a
def pa (k a b : Int) : Int := dw a (pb k a b)
theorem qa_bd (a b : Int) : isW (qa a b) := aw_bd a b
theorem qb_bd (k : Int) {a b : Int} (hb : isW b) : isW (qb k a b) := rot_bd (xw_bd hb (aw_bd a b)) k
theorem pb_bd (k : Int) {a b : Int} (ha : isW a) (hb : isW b) : isW (pb k a b) := xw_bd (rot_bd hb _) ha
theorem pa_bd (k a b : Int) : isW (pa k a b) := dw_bd _ _
theorem pb_q (k : Int) {a b : Int} (hb : isW b) : pb k (qa a b) (qb k a b) = b := by
  unfold pb qa qb
  rw [rot_back k (xw_bd hb (aw_bd a b)), xw_back hb (aw_bd a b)]
theorem pa_q (k : Int) {a b : Int} (ha : isW a) (hb : isW b) : pa k (qa a b) (qb k a b) = a := by
  unfold pa
  rw [pb_q k hb]
  exact dw_aw ha hb
theorem qa_p (k : Int) {a b : Int} (ha : isW a) (hb : isW b) : qa (pa k a b) (pb k a b) = a := by
  unfold qa pa
  exact aw_dw ha (pb_bd k ha hb)
theorem qb_p (k : Int) {a b : Int} (ha : isW a) (hb : isW b) : qb k (pa k a b) (pb k a b) = b := by
  have h := qa_p k ha hb
  unfold qa at h
  unfold qb
  rw [h]
  unfold pb
  rw [xw_back (rot_bd hb _) ha]
  exact rot_forth k hb

/-- What is added in a round. -/
def rc (r : Nat) : Int := 2654435769 * ((r : Int) + 1) % 4294967296
theorem rc_bd (r : Nat) : isW (rc r) := by unfold isW rc; omega
/-- One round. -/
def rnd (r : Nat) (s : S8) : S8 :=
  ⟨qa s.x3 s.x7, qb 7 (aw s.x0 (rc r)) s.x4, qb 9 s.x1 s.x5, qb 13 s.x2 s.x6, qb 18 s.x3 s.x7, qa (aw s.x0 (rc r)) s.x4, qa s.x1 s.x5, qa s.x2 s.x6⟩
/-- And back. -/
def unr (r : Nat) (s : S8) : S8 :=
  ⟨dw (pa 7 s.x5 s.x1) (rc r), pa 9 s.x6 s.x2, pa 13 s.x7 s.x3, pa 18 s.x0 s.x4, pb 7 s.x5 s.x1, pb 9 s.x6 s.x2, pb 13 s.x7 s.x3, pb 18 s.x0 s.x4⟩
theorem rnd_ok (r : Nat) {s : S8} (h : s.ok) : (rnd r s).ok := by
  obtain ⟨_, _, _, _, h4, h5, h6, h7⟩ := h
  exact ⟨qa_bd _ _, qb_bd _ h4, qb_bd _ h5, qb_bd _ h6, qb_bd _ h7, qa_bd _ _, qa_bd _ _, qa_bd _ _⟩
theorem unr_ok (r : Nat) {s : S8} (h : s.ok) : (unr r s).ok := by
  obtain ⟨h0, h1, h2, h3, h4, h5, h6, h7⟩ := h
  exact ⟨dw_bd _ _, pa_bd _ _ _, pa_bd _ _ _, pa_bd _ _ _, pb_bd _ h5 h1, pb_bd _ h6 h2, pb_bd _ h7 h3, pb_bd _ h0 h4⟩
theorem unr_rnd (r : Nat) {s : S8} (h : s.ok) : unr r (rnd r s) = s := by
  obtain ⟨h0, h1, h2, h3, h4, h5, h6, h7⟩ := h
  cases s
  simp only [unr, rnd] at *
  rw [pa_q 7 (aw_bd _ _) h4, pa_q 9 h1 h5, pa_q 13 h2 h6, pa_q 18 h3 h7, pb_q 7 h4, pb_q 9 h5, pb_q 13 h6, pb_q 18 h7, dw_aw h0 (rc_bd r)]
theorem rnd_unr (r : Nat) {s : S8} (h : s.ok) : rnd r (unr r s) = s := by
  obtain ⟨h0, h1, h2, h3, h4, h5, h6, h7⟩ := h
  cases s
  simp only [unr, rnd] at *
  rw [aw_dw (pa_bd _ _ _) (rc_bd r), qa_p 7 h5 h1, qa_p 9 h6 h2, qa_p 13 h7 h3, qa_p 18 h0 h4, qb_p 7 h5 h1, qb_p 9 h6 h2, qb_p 13 h7 h3, qb_p 18 h0 h4]
/-- So many rounds; so many, back. -/
def mixN : Nat → S8 → S8
  | 0, s => s
  | n + 1, s => rnd n (mixN n s)
def unmN : Nat → S8 → S8
  | 0, s => s
  | n + 1, s => unmN n (unr n s)
theorem mixN_succ (n : Nat) (s : S8) : mixN (n + 1) s = rnd n (mixN n s) := rfl
theorem unmN_succ (n : Nat) (s : S8) : unmN (n + 1) s = unmN n (unr n s) := rfl
theorem mixN_ok (n : Nat) {s : S8} (h : s.ok) : (mixN n s).ok := by
  induction n with
  | zero => exact h
  | succ n ih => exact rnd_ok n ih
theorem unmN_ok (n : Nat) : ∀ {s : S8}, s.ok → (unmN n s).ok := by
  induction n with
  | zero => intro s h; exact h
  | succ n ih => intro s h; exact ih (unr_ok n h)
theorem unm_mix (n : Nat) {s : S8} (h : s.ok) : unmN n (mixN n s) = s := by
  induction n with
  | zero => rfl
  | succ n ih =>
    rw [mixN_succ, unmN_succ, unr_rnd n (mixN_ok n h), ih]
theorem mix_unm (n : Nat) : ∀ {s : S8}, s.ok → mixN n (unmN n s) = s := by
  induction n with
  | zero => intro s _; rfl
  | succ n ih =>
    intro s h
    rw [mixN_succ, unmN_succ, ih (unr_ok n h), rnd_unr n h]
theorem mix_inj (n : Nat) {s t : S8} (hs : s.ok) (ht : t.ok) : mixN n s = mixN n t ↔ s = t := by
  constructor
  · intro h
    rw [← unm_mix n hs, ← unm_mix n ht, h]
  · intro h; rw [h]
end

section
/-! Rows of integers in a block: what they hold, and what a store makes of them. Plain mathematics of a round, step by step, over such rows. -/
open Go.RowKit

/-- A block holds these integers, and no more. -/
def Arr (κ : IntKind) (t : TypeId) (b : Nat) (L : List Int) (w : World) : Prop := w.heap[b]? = some (.cells ((L.map (Value.int κ)).toArray) t (0, 0))
theorem Arr.cell {κ : IntKind} {t : TypeId} {b : Nat} {L : List Int} {w : World} (h : Arr κ t b L w) {j : Nat} (hj : j < L.length) : w.cell? ⟨b, j, none⟩ = some (.int κ (L.getD j 0)) := by
  rw [cell_of_row w b j _ t (0, 0) h]
  simp [List.getElem?_eq_getElem hj, List.getD]
theorem Arr.fz {κ : IntKind} {t : TypeId} {b : Nat} {L : List Int} {w : World} (h : Arr κ t b L w) (j : Nat) : w.frozen? ⟨b, j, none⟩ = false := frozen_of_row w b j _ t h
theorem Arr.set {κ : IntKind} {t : TypeId} {b : Nat} {L : List Int} {w : World} (h : Arr κ t b L w) (j : Nat) (v : Int) : Arr κ t b (L.set j v) (w.setCell ⟨b, j, none⟩ (.int κ v)) := by
  unfold Arr
  rw [heap_setCell_same w b j _ t _ h]
  congr 2
  apply Array.ext'
  simp [List.map_set]
theorem Arr.far {κ : IntKind} {t : TypeId} {b : Nat} {L : List Int} {w : World} (h : Arr κ t b L w) {a : Addr} (hne : b ≠ a.block) (v : Value) : Arr κ t b L (w.setCell a v) := by
  unfold Arr
  rw [heap_setCell_other w a b v hne]
  exact h
theorem Arr.lt {κ : IntKind} {t : TypeId} {b : Nat} {L : List Int} {w : World} (h : Arr κ t b L w) : b < w.heap.size := by
  rcases Nat.lt_or_ge b w.heap.size with q | q
  · exact q
  · unfold Arr at h
    rw [Array.getElem?_eq_none q] at h
    cases h
theorem Arr.al {κ : IntKind} {t : TypeId} {b : Nat} {L : List Int} {w : World} (h : Arr κ t b L w) (o : Obj) : Arr κ t b L (w.alloc o) := by
  have hl := h.lt
  unfold Arr
  rw [Below.heap_alloc w o b hl]
  exact h

/-- The places turned, pair by pair. -/
def kk (i : Nat) : Int := [7, 9, 13, 18].getD i 0
def stepP (k : Int) (i : Nat) (L : List Int) : List Int := (L.set i (aw (L.getD i 0) (L.getD (i + 4) 0))).set (i + 4) (rotI (xw (L.getD (i + 4) 0) (aw (L.getD i 0) (L.getD (i + 4) 0))) k)
def foldP : Nat → List Int → List Int
  | 0, L => L
  | n + 1, L => stepP (kk n) n (foldP n L)
/-- The words moved, one after the other. -/
def movP (L : List Int) : Nat → List Int
  | 0 => [0, 0, 0, 0, 0, 0, 0, 0]
  | n + 1 => (movP L n).set n (L.getD ((n + 3) % 8) 0)
def allW (L : List Int) : Prop := ∀ x ∈ L, isW x
theorem allW.get {L : List Int} (h : allW L) (j : Nat) : isW (L.getD j 0) := by
  rcases Nat.lt_or_ge j L.length with q | q
  · rw [List.getD_eq_getElem?_getD, List.getElem?_eq_getElem q]
    exact h _ (List.getElem_mem q)
  · rw [List.getD_eq_getElem?_getD, List.getElem?_eq_none q]
    exact ⟨by decide, by decide⟩
theorem allW.put {L : List Int} (h : allW L) (j : Nat) {v : Int} (hv : isW v) : allW (L.set j v) := by
  intro x hx
  rcases List.mem_or_eq_of_mem_set hx with q | q
  · exact h x q
  · rw [q]; exact hv
theorem stepP_len (k : Int) (i : Nat) (L : List Int) : (stepP k i L).length = L.length := by simp [stepP]
theorem foldP_len (n : Nat) (L : List Int) : (foldP n L).length = L.length := by
  induction n with
  | zero => rfl
  | succ n ih => rw [foldP, stepP_len, ih]
theorem stepP_ok {L : List Int} (h : allW L) (k : Int) (i : Nat) : allW (stepP k i L) := by
  unfold stepP
  exact (h.put i (aw_bd _ _)).put (i + 4) (rot_bd (xw_bd (h.get _) (aw_bd _ _)) k)
theorem foldP_ok {L : List Int} (h : allW L) (n : Nat) : allW (foldP n L) := by
  induction n with
  | zero => exact h
  | succ n ih => exact stepP_ok ih _ _
theorem movP_len (L : List Int) (n : Nat) : (movP L n).length = 8 := by
  induction n with
  | zero => rfl
  | succ n ih => rw [movP, List.length_set, ih]
def S8.toL (s : S8) : List Int := [s.x0, s.x1, s.x2, s.x3, s.x4, s.x5, s.x6, s.x7]
theorem S8.toL_len (s : S8) : s.toL.length = 8 := rfl
theorem S8.toL_ok {s : S8} (h : s.ok) : allW s.toL := by
  obtain ⟨h0, h1, h2, h3, h4, h5, h6, h7⟩ := h
  intro x hx
  simp only [S8.toL, List.mem_cons, List.not_mem_nil, or_false] at hx
  rcases hx with rfl | rfl | rfl | rfl | rfl | rfl | rfl | rfl <;> assumption
/-- A round, over rows. -/
theorem round_list (r : Nat) (s : S8) : movP (foldP 4 (s.toL.set 0 (aw s.x0 (rc r)))) 8 = (rnd r s).toL := by
  rfl
end

section
/-! The contract of the document's Mix. -/
open Go.RowKit

theorem turns_any (w : World) : Calls Tryd.prog 87 #[] w fun e w' => e = .returned (.agg #[.int .i64 7, .int .i64 9, .int .i64 13, .int .i64 18]) ∧ Below w.heap.size w w' := by
  go_enter Tryd.func87, Tryd.ntmps87
  go_wp2
  refine bodyPost_ret (v := .agg #[.int .i64 7, .int .i64 9, .int .i64 13, .int .i64 18]) (by simp [results, Tryd.results87, go_sem]) rfl ⟨rfl, ?_⟩
  exact (Below.refl _ _).alloc (Nat.le_refl _) _
theorem bits_xw {a b : Int} (ha : isW a) (hb : isW b) : bits .xor .u32 a b = xw a b := u32_xor a b ha.1 ha.2 hb.1 hb.2
theorem turn_still (a n : Int) (w : World) (ha : isW a) : Calls Tryd.prog 88 #[.int .u32 a, .int .i64 n] w fun e w' => e = .returned (.int .u32 (rotI a n)) ∧ w' = w :=
  (refTurn_any a n w ha.1 ha.2).mono fun _ _ h => ⟨h.1, h.2.symm⟩
/-- A state as a value. -/
def S8.val (s : S8) : Value := .agg #[.int .u32 s.x0, .int .u32 s.x1, .int .u32 s.x2, .int .u32 s.x3, .int .u32 s.x4, .int .u32 s.x5, .int .u32 s.x6, .int .u32 s.x7]

theorem set8 {N : List Int} (h : N.length = 8) (y : S8) : (((((((N.set 0 y.x0).set 1 y.x1).set 2 y.x2).set 3 y.x3).set 4 y.x4).set 5 y.x5).set 6 y.x6).set 7 y.x7 = y.toL := by
  match N, h with
  | [_, _, _, _, _, _, _, _], _ => rfl
theorem put8 {t : TypeId} {b : Nat} {N : List Int} {w : World} {y : S8} (h : Arr .u32 t b N w) (hn : N.length = 8) :
    Arr .u32 t b y.toL ((((((((w.setCell ⟨b, 0, none⟩ (.int .u32 y.x0)).setCell ⟨b, 1, none⟩ (.int .u32 y.x1)).setCell ⟨b, 2, none⟩ (.int .u32 y.x2)).setCell ⟨b, 3, none⟩ (.int .u32 y.x3)).setCell ⟨b, 4, none⟩ (.int .u32 y.x4)).setCell ⟨b, 5, none⟩ (.int .u32 y.x5)).setCell ⟨b, 6, none⟩ (.int .u32 y.x6)).setCell ⟨b, 7, none⟩ (.int .u32 y.x7)) := by
  rw [← set8 hn y]
  exact (((((((h.set 0 _).set 1 _).set 2 _).set 3 _).set 4 _).set 5 _).set 6 _).set 7 _
set_option maxHeartbeats 4000000 in
set_option maxRecDepth 100000 in
theorem mix_any (s : S8) (w : World) (hs : s.ok) : Calls Tryd.prog 78 #[s.val] w fun e w' => e = .returned (mixN 8 s).val ∧ Below w.heap.size w w' := by
  go_enter Tryd.func78, Tryd.ntmps78
  simp only [S8.val]
  go_wp2_with fail
  refine (turns_any _).mono ?_
  rintro e w1 ⟨rfl, hB⟩
  go_wp2_with fail
  go_loopw [4] (fun i wr => ∃ (r : Nat) (x : S8), r ≤ 8 ∧ i = .int .i64 r ∧ x.ok ∧ Hid (x = mixN r s) ∧ Arr .u32 87 w.heap.size x.toL wr ∧ Arr .i64 118 w1.heap.size [7, 9, 13, 18] wr ∧ Arr .u32 87 (w.heap.size + 1) [0, 0, 0, 0, 0, 0, 0, 0] wr ∧ Below w.heap.size w wr) (fun i _ => 8 - (intOf i).toNat)
  case atStart =>
    refine ⟨0, s, by omega, rfl, hs, rfl, ?_, ?_, ?_, ?_⟩
    · have h := hB.block w.heap.size (by simp <;> omega)
      refine Arr.al ?_ _
      unfold Arr
      rw [h, Below.heap_alloc _ _ _ (by simp <;> omega)]
      exact heap_alloc_new w _
    · exact heap_alloc_new w1 _
    · have h := hB.block (w.heap.size + 1) (by simp <;> omega)
      refine Arr.al ?_ _
      unfold Arr
      rw [h]
      have e := heap_alloc_new (w.alloc (.cells #[.int .u32 s.x0, .int .u32 s.x1, .int .u32 s.x2, .int .u32 s.x3, .int .u32 s.x4, .int .u32 s.x5, .int .u32 s.x6, .int .u32 s.x7] 87)) (.cells #[.int .u32 0, .int .u32 0, .int .u32 0, .int .u32 0, .int .u32 0, .int .u32 0, .int .u32 0, .int .u32 0] 87)
      have e2 : (w.alloc (.cells #[.int .u32 s.x0, .int .u32 s.x1, .int .u32 s.x2, .int .u32 s.x3, .int .u32 s.x4, .int .u32 s.x5, .int .u32 s.x6, .int .u32 s.x7] 87)).heap.size = w.heap.size + 1 := by simp
      rw [e2] at e
      exact e
    · exact (((((Below.refl _ _).alloc (Nat.le_refl _) _).alloc (by simp) _).trans (hB.mono (by simp; omega)))).alloc (by have := hB.size; simp at this; omega) _
  case round =>
    obtain ⟨r, x, hr, rfl, hx, HX, hA, hK, hR, hBr⟩ := hrel
    by_cases hlt : r < 8
    · have hc0 : wr.cell? ⟨w.heap.size, 0, none⟩ = some (.int .u32 x.x0) := hA.cell (j := 0) (by rw [S8.toL_len]; decide)
      have hf0 := hA.fz 0
      have hd8 : decide ((r : Int) < 8) = true := by simp; omega
      have hne : w.heap.size ≠ w1.heap.size := by have := hB.size; simp at this; omega
      have hK1 := hK.far (a := ⟨w.heap.size, 0, none⟩) (Ne.symm hne) (.int .u32 ((x.x0 + 2654435769 * ((r : Int) + 1)) % 4294967296))
      have hR1 := hR.far (a := ⟨w.heap.size, 0, none⟩) (by simp) (.int .u32 ((x.x0 + 2654435769 * ((r : Int) + 1)) % 4294967296))
      have hB1 := hBr.setCell (p := ⟨w.heap.size, 0, none⟩) (Nat.le_refl _) (.int .u32 ((x.x0 + 2654435769 * ((r : Int) + 1)) % 4294967296))
      have hv : (x.x0 + 2654435769 * ((r : Int) + 1)) % 4294967296 = aw x.x0 (rc r) := by unfold aw rc; omega
      obtain ⟨L, hL⟩ : ∃ L, x.toL.set 0 (aw x.x0 (rc r)) = L := ⟨_, rfl⟩
      have hLn : L.length = 8 := by rw [← hL]; rfl
      have hLw : allW L := by rw [← hL]; exact (S8.toL_ok hx).put 0 (aw_bd _ _)
      have hA1 : Arr .u32 87 w.heap.size L (wr.setCell ⟨w.heap.size, 0, none⟩ (.int .u32 ((x.x0 + 2654435769 * ((r : Int) + 1)) % 4294967296))) := by
        rw [← hL, ← hv]; exact hA.set 0 _
      have HL := Lib.hid hL
      clear hL hv hA hK hR hBr
      go_wp2_with fail
      generalize wr.setCell ⟨w.heap.size, 0, none⟩ (.int .u32 ((x.x0 + 2654435769 * ((r : Int) + 1)) % 4294967296)) = w2 at *
      clear hc0 hf0
      generalize (x.x0 + 2654435769 * ((r : Int) + 1) % 4294967296) % 4294967296 = z1
      generalize 2654435769 * ((r : Int) + 1) % 4294967296 = z2
      go_loopw [5] (fun i wi => ∃ k : Nat, k ≤ 4 ∧ i = .int .i64 k ∧ Arr .u32 87 w.heap.size (foldP k L) wi ∧ Arr .i64 118 w1.heap.size [7, 9, 13, 18] wi ∧ Arr .u32 87 (w.heap.size + 1) [0, 0, 0, 0, 0, 0, 0, 0] wi ∧ Below w.heap.size w wi) (fun i _ => 4 - (intOf i).toNat)
      case atStart => exact ⟨0, by omega, rfl, hA1, hK1, hR1, hB1⟩
      case round =>
        clear hA1 hK1 hR1 hB1
        obtain ⟨k, hk, rfl, hA, hK, hR, hBk⟩ := hrel
        by_cases hlt4 : k < 4
        · have hMn : (foldP k L).length = 8 := by rw [foldP_len, hLn]
          have hMw := foldP_ok hLw k
          have HM : Hid (foldP (k + 1) L = stepP (kk k) k (foldP k L)) := rfl
          generalize foldP k L = M at *
          obtain ⟨a, ha⟩ : ∃ a, M.getD k 0 = a := ⟨_, rfl⟩
          obtain ⟨b, hb⟩ : ∃ b, M.getD (k + 4) 0 = b := ⟨_, rfl⟩
          have hc1 : wr.cell? ⟨w.heap.size, k, none⟩ = some (.int .u32 a) := by rw [← ha]; exact hA.cell (by omega)
          have hc2 : wr.cell? ⟨w.heap.size, k + 4, none⟩ = some (.int .u32 b) := by rw [← hb]; exact hA.cell (by omega)
          have hf1 := hA.fz k
          have hf2 := hA.fz (k + 4)
          have hk0 : (0 : Int) ≤ k := by omega
          have hk3 : (k : Int) < 4 := by omega
          go_wp2_with fail
          go_region
          go_wp2_with fail
          have hA2 : Arr .u32 87 w.heap.size (M.set k (aw a b)) (wr.setCell ⟨w.heap.size, k, none⟩ (.int .u32 ((a + b) % 4294967296))).drew := hA.set k _
          have hK2 : Arr .i64 118 w1.heap.size [7, 9, 13, 18] (wr.setCell ⟨w.heap.size, k, none⟩ (.int .u32 ((a + b) % 4294967296))).drew := hK.far (a := ⟨w.heap.size, k, none⟩) (Ne.symm hne) _
          have hR2 : Arr .u32 87 (w.heap.size + 1) [0, 0, 0, 0, 0, 0, 0, 0] (wr.setCell ⟨w.heap.size, k, none⟩ (.int .u32 ((a + b) % 4294967296))).drew := hR.far (a := ⟨w.heap.size, k, none⟩) (by simp) _
          have hB2 : Below w.heap.size w (wr.setCell ⟨w.heap.size, k, none⟩ (.int .u32 ((a + b) % 4294967296))).drew := (hBk.setCell (p := ⟨w.heap.size, k, none⟩) (Nat.le_refl _) _).drew
          generalize (wr.setCell ⟨w.heap.size, k, none⟩ (.int .u32 ((a + b) % 4294967296))).drew = w3 at *
          clear hc1 hc2 hf1 hf2 hA hK hR hBk
          have hc1 : w3.cell? ⟨w.heap.size, k, none⟩ = some (.int .u32 (aw a b)) := by
            have h := hA2.cell (j := k) (by rw [List.length_set]; omega)
            rw [h]; simp [List.getD, hMn, show k < 8 by omega]
          have hc2 : w3.cell? ⟨w.heap.size, k + 4, none⟩ = some (.int .u32 b) := by
            have h := hA2.cell (j := k + 4) (by rw [List.length_set]; omega)
            rw [h, ← hb]; simp [List.getD]
          have hc3 : w3.cell? ⟨w1.heap.size, k, none⟩ = some (.int .i64 (kk k)) := hK2.cell (j := k) (by simp; omega)
          have hf2 := hA2.fz (k + 4)
          have hbw : isW b := by rw [← hb]; exact hMw.get _
          have hcw : isW (aw a b) := aw_bd a b
          have hbx : isW (bits .xor .u32 b (aw a b)) := by rw [bits_xw hbw hcw]; exact xw_bd hbw hcw
          have HS : Hid (foldP (k + 1) L = (M.set k (aw a b)).set (k + 4) (rotI (bits .xor .u32 b (aw a b)) (kk k))) := by
            show _ = _
            rw [HM.out, bits_xw hbw hcw, stepP, ha, hb]
          generalize kk k = q at *
          generalize aw a b = c at *
          have e1 : IntKind.i64.wrap ((k : Int) + 4) = (k : Int) + 4 := IntWalk.i64_in _ (by omega)
          have e2 : (0 : Int) ≤ (k : Int) + 4 := by omega
          have e3 : ((k : Int) + 4).toNat = k + 4 := by omega
          have e4 : (k : Int) + 4 < 8 := by omega
          have e5 : (k : Int) < 8 := by omega
          go_still_tail 14, (by kernel_rfl)
          still_call (turn_still (bits .xor .u32 b c) q _ hbx)
          refine wpStill_nil ?_
          change wpList _ _ _ _ _ w3.drew
          have hA4 : Arr .u32 87 w.heap.size (M.set k c) w3.drew := hA2
          have hK4 : Arr .i64 118 w1.heap.size [7, 9, 13, 18] w3.drew := hK2
          have hR4 : Arr .u32 87 (w.heap.size + 1) [0, 0, 0, 0, 0, 0, 0, 0] w3.drew := hR2
          have hB4 := hB2.drew
          have hc4 : w3.drew.cell? ⟨w.heap.size, k + 4, none⟩ = some (.int .u32 b) := hc2
          have hf4 : w3.drew.frozen? ⟨w.heap.size, k + 4, none⟩ = false := hf2
          generalize w3.drew = w4 at *
          clear hc1 hc2 hc3 hf2 hA2 hK2 hR2 hB2
          have hA5 := hA4.set (k + 4) (rotI (bits .xor .u32 b c) q)
          have hK5 := hK4.far (a := ⟨w.heap.size, k + 4, none⟩) (Ne.symm hne) (.int .u32 (rotI (bits .xor .u32 b c) q))
          have hR5 := hR4.far (a := ⟨w.heap.size, k + 4, none⟩) (by simp) (.int .u32 (rotI (bits .xor .u32 b c) q))
          have hB5 := hB4.setCell (p := ⟨w.heap.size, k + 4, none⟩) (Nat.le_refl _) (.int .u32 (rotI (bits .xor .u32 b c) q))
          rw [← HS.out] at hA5
          clear hA4 hK4 hR4 hB4
          go_wp2_with fail
          go_roundw
          case rel => exact ⟨k + 1, by omega, by go_num, hA5, hK5, hR5, hB5⟩
          case measure => simp [intOf]; omega
        · have hk4 : k = 4 := by omega
          subst hk4
          obtain ⟨N, hN⟩ : ∃ N, foldP 4 L = N := ⟨_, rfl⟩
          have HN := Lib.hid hN
          have hNn : N.length = 8 := by rw [← hN, foldP_len, hLn]
          rw [hN] at hA
          clear hN
          have hTl := Nat.le_refl wr.heap.size
          have hT : Arr .u32 87 wr.heap.size [0, 0, 0, 0, 0, 0, 0, 0] (wr.alloc (.cells #[.int .u32 0, .int .u32 0, .int .u32 0, .int .u32 0, .int .u32 0, .int .u32 0, .int .u32 0, .int .u32 0] 87)) := by
            exact heap_alloc_new wr _
          have hA0 := hA.al (.cells #[.int .u32 0, .int .u32 0, .int .u32 0, .int .u32 0, .int .u32 0, .int .u32 0, .int .u32 0, .int .u32 0] 87)
          have hK0 := hK.al (.cells #[.int .u32 0, .int .u32 0, .int .u32 0, .int .u32 0, .int .u32 0, .int .u32 0, .int .u32 0, .int .u32 0] 87)
          have hR0 := hR.al (.cells #[.int .u32 0, .int .u32 0, .int .u32 0, .int .u32 0, .int .u32 0, .int .u32 0, .int .u32 0, .int .u32 0] 87)
          have hB0 := hBk.alloc hBk.size (.cells #[.int .u32 0, .int .u32 0, .int .u32 0, .int .u32 0, .int .u32 0, .int .u32 0, .int .u32 0, .int .u32 0] 87)
          have n1 : w.heap.size ≠ wr.heap.size := by have := hA.lt; omega
          have n2 : w1.heap.size ≠ wr.heap.size := by have := hK.lt; omega
          have n4 : w.heap.size + 1 ≠ wr.heap.size := by have := hR.lt; omega
          have n3 : w.heap.size ≤ wr.heap.size := hBk.size
          go_wp2_with fail
          generalize wr.alloc (.cells #[.int .u32 0, .int .u32 0, .int .u32 0, .int .u32 0, .int .u32 0, .int .u32 0, .int .u32 0, .int .u32 0] 87) = w5 at *
          generalize wr.heap.size = B at *
          clear hA hK hR hBk hTl
          go_loopw [7] (fun j wj => ∃ m : Nat, m ≤ 8 ∧ j = .int .i64 m ∧ Arr .u32 87 w.heap.size N wj ∧ Arr .u32 87 B (movP N m) wj ∧ Arr .i64 118 w1.heap.size [7, 9, 13, 18] wj ∧ Arr .u32 87 (w.heap.size + 1) [0, 0, 0, 0, 0, 0, 0, 0] wj ∧ Below w.heap.size w wj) (fun j _ => 8 - (intOf j).toNat)
          case atStart => exact ⟨0, by omega, rfl, hA0, hT, hK0, hR0, hB0⟩
          case round =>
            clear hA0 hT hK0 hR0 hB0
            obtain ⟨m, hm, rfl, hA, hT, hK, hR, hBm⟩ := hrel
            by_cases hm8 : m < 8
            · have hmd : decide ((m : Int) < 8) = true := by simp; omega
              have hTn := movP_len N m
              have HP : Hid (movP N (m + 1) = (movP N m).set m (N.getD ((m + 3) % 8) 0)) := rfl
              generalize movP N m = T at *
              have hc1 : wr.cell? ⟨w.heap.size, (m + 3) % 8, none⟩ = some (.int .u32 (N.getD ((m + 3) % 8) 0)) := hA.cell (by omega)
              have hc2 : wr.cell? ⟨B, m, none⟩ = some (.int .u32 (T.getD m 0)) := hT.cell (by omega)
              have hf2 := hT.fz m
              have e6 : (((m : Int) + 3) % 8).toNat = (m + 3) % 8 := by omega
              have e7 : (0 : Int) ≤ ((m : Int) + 3) % 8 := by omega
              have e8 : ((m : Int) + 3) % 8 < 8 := by omega
              go_wp2_with fail
              go_roundw
              case rel =>
                refine ⟨m + 1, by omega, by go_num, hA.far n1 _, ?_, hK.far n2 _, hR.far n4 _, hBm.setCell (p := ⟨B, m, none⟩) n3 _⟩
                rw [HP.out]
                exact hT.set m _
              case measure => simp [intOf]; omega
            · have hm8 : m = 8 := by omega
              subst hm8
              obtain ⟨y, hy⟩ : ∃ y, rnd r x = y := ⟨_, rfl⟩
              have hNy : movP N 8 = y.toL := by rw [← hy, ← HN.out, ← HL.out]; exact round_list r x
              have hyo : y.ok := by rw [← hy]; exact rnd_ok r hx
              have HY : Hid (y = mixN (r + 1) s) := by
                show y = _
                rw [mixN_succ, ← HX.out, hy]
              rw [hNy] at hT
              clear hNy hy
              have t0 : wr.cell? ⟨B, 0, none⟩ = some (.int .u32 y.x0) := hT.cell (j := 0) (by rw [S8.toL_len]; decide)
              have t1 : wr.cell? ⟨B, 1, none⟩ = some (.int .u32 y.x1) := hT.cell (j := 1) (by rw [S8.toL_len]; decide)
              have t2 : wr.cell? ⟨B, 2, none⟩ = some (.int .u32 y.x2) := hT.cell (j := 2) (by rw [S8.toL_len]; decide)
              have t3 : wr.cell? ⟨B, 3, none⟩ = some (.int .u32 y.x3) := hT.cell (j := 3) (by rw [S8.toL_len]; decide)
              have t4 : wr.cell? ⟨B, 4, none⟩ = some (.int .u32 y.x4) := hT.cell (j := 4) (by rw [S8.toL_len]; decide)
              have t5 : wr.cell? ⟨B, 5, none⟩ = some (.int .u32 y.x5) := hT.cell (j := 5) (by rw [S8.toL_len]; decide)
              have t6 : wr.cell? ⟨B, 6, none⟩ = some (.int .u32 y.x6) := hT.cell (j := 6) (by rw [S8.toL_len]; decide)
              have t7 : wr.cell? ⟨B, 7, none⟩ = some (.int .u32 y.x7) := hT.cell (j := 7) (by rw [S8.toL_len]; decide)
              have b0 := hA.cell (j := 0) (by omega)
              have f0 := hA.fz 0
              have b1 := hA.cell (j := 1) (by omega)
              have f1 := hA.fz 1
              have b2 := hA.cell (j := 2) (by omega)
              have f2 := hA.fz 2
              have b3 := hA.cell (j := 3) (by omega)
              have f3 := hA.fz 3
              have b4 := hA.cell (j := 4) (by omega)
              have f4 := hA.fz 4
              have b5 := hA.cell (j := 5) (by omega)
              have f5 := hA.fz 5
              have b6 := hA.cell (j := 6) (by omega)
              have f6 := hA.fz 6
              have b7 := hA.cell (j := 7) (by omega)
              have f7 := hA.fz 7
              have hAf := put8 (y := y) hA hNn
              have hKf := ((((((((hK).far (a := ⟨w.heap.size, 0, none⟩) (Ne.symm hne) (.int .u32 y.x0)).far (a := ⟨w.heap.size, 1, none⟩) (Ne.symm hne) (.int .u32 y.x1)).far (a := ⟨w.heap.size, 2, none⟩) (Ne.symm hne) (.int .u32 y.x2)).far (a := ⟨w.heap.size, 3, none⟩) (Ne.symm hne) (.int .u32 y.x3)).far (a := ⟨w.heap.size, 4, none⟩) (Ne.symm hne) (.int .u32 y.x4)).far (a := ⟨w.heap.size, 5, none⟩) (Ne.symm hne) (.int .u32 y.x5)).far (a := ⟨w.heap.size, 6, none⟩) (Ne.symm hne) (.int .u32 y.x6)).far (a := ⟨w.heap.size, 7, none⟩) (Ne.symm hne) (.int .u32 y.x7)
              have hRf := ((((((((hR).far (a := ⟨w.heap.size, 0, none⟩) (by simp) (.int .u32 y.x0)).far (a := ⟨w.heap.size, 1, none⟩) (by simp) (.int .u32 y.x1)).far (a := ⟨w.heap.size, 2, none⟩) (by simp) (.int .u32 y.x2)).far (a := ⟨w.heap.size, 3, none⟩) (by simp) (.int .u32 y.x3)).far (a := ⟨w.heap.size, 4, none⟩) (by simp) (.int .u32 y.x4)).far (a := ⟨w.heap.size, 5, none⟩) (by simp) (.int .u32 y.x5)).far (a := ⟨w.heap.size, 6, none⟩) (by simp) (.int .u32 y.x6)).far (a := ⟨w.heap.size, 7, none⟩) (by simp) (.int .u32 y.x7)
              have hBf := ((((((((hBm).setCell (p := ⟨w.heap.size, 0, none⟩) (Nat.le_refl _) (.int .u32 y.x0)).setCell (p := ⟨w.heap.size, 1, none⟩) (Nat.le_refl _) (.int .u32 y.x1)).setCell (p := ⟨w.heap.size, 2, none⟩) (Nat.le_refl _) (.int .u32 y.x2)).setCell (p := ⟨w.heap.size, 3, none⟩) (Nat.le_refl _) (.int .u32 y.x3)).setCell (p := ⟨w.heap.size, 4, none⟩) (Nat.le_refl _) (.int .u32 y.x4)).setCell (p := ⟨w.heap.size, 5, none⟩) (Nat.le_refl _) (.int .u32 y.x5)).setCell (p := ⟨w.heap.size, 6, none⟩) (Nat.le_refl _) (.int .u32 y.x6)).setCell (p := ⟨w.heap.size, 7, none⟩) (Nat.le_refl _) (.int .u32 y.x7)
              go_wp2_with fail
              go_roundw
              case rel => exact ⟨r + 1, y, by omega, by go_num, hyo, HY, hAf, hKf, hRf, hBf⟩
              case measure => simp [intOf]; omega
    · have hr8 : r = 8 := by omega
      subst hr8
      have t0 : wr.cell? ⟨w.heap.size, 0, none⟩ = some (.int .u32 x.x0) := hA.cell (j := 0) (by rw [S8.toL_len]; decide)
      have t1 : wr.cell? ⟨w.heap.size, 1, none⟩ = some (.int .u32 x.x1) := hA.cell (j := 1) (by rw [S8.toL_len]; decide)
      have t2 : wr.cell? ⟨w.heap.size, 2, none⟩ = some (.int .u32 x.x2) := hA.cell (j := 2) (by rw [S8.toL_len]; decide)
      have t3 : wr.cell? ⟨w.heap.size, 3, none⟩ = some (.int .u32 x.x3) := hA.cell (j := 3) (by rw [S8.toL_len]; decide)
      have t4 : wr.cell? ⟨w.heap.size, 4, none⟩ = some (.int .u32 x.x4) := hA.cell (j := 4) (by rw [S8.toL_len]; decide)
      have t5 : wr.cell? ⟨w.heap.size, 5, none⟩ = some (.int .u32 x.x5) := hA.cell (j := 5) (by rw [S8.toL_len]; decide)
      have t6 : wr.cell? ⟨w.heap.size, 6, none⟩ = some (.int .u32 x.x6) := hA.cell (j := 6) (by rw [S8.toL_len]; decide)
      have t7 : wr.cell? ⟨w.heap.size, 7, none⟩ = some (.int .u32 x.x7) := hA.cell (j := 7) (by rw [S8.toL_len]; decide)
      have b0 : wr.cell? ⟨w.heap.size + 1, 0, none⟩ = some (.int .u32 0) := hR.cell (j := 0) (by decide)
      have f0 := hR.fz 0
      have b1 : wr.cell? ⟨w.heap.size + 1, 1, none⟩ = some (.int .u32 0) := hR.cell (j := 1) (by decide)
      have f1 := hR.fz 1
      have b2 : wr.cell? ⟨w.heap.size + 1, 2, none⟩ = some (.int .u32 0) := hR.cell (j := 2) (by decide)
      have f2 := hR.fz 2
      have b3 : wr.cell? ⟨w.heap.size + 1, 3, none⟩ = some (.int .u32 0) := hR.cell (j := 3) (by decide)
      have f3 := hR.fz 3
      have b4 : wr.cell? ⟨w.heap.size + 1, 4, none⟩ = some (.int .u32 0) := hR.cell (j := 4) (by decide)
      have f4 := hR.fz 4
      have b5 : wr.cell? ⟨w.heap.size + 1, 5, none⟩ = some (.int .u32 0) := hR.cell (j := 5) (by decide)
      have f5 := hR.fz 5
      have b6 : wr.cell? ⟨w.heap.size + 1, 6, none⟩ = some (.int .u32 0) := hR.cell (j := 6) (by decide)
      have f6 := hR.fz 6
      have b7 : wr.cell? ⟨w.heap.size + 1, 7, none⟩ = some (.int .u32 0) := hR.cell (j := 7) (by decide)
      have f7 := hR.fz 7
      go_wp2_with fail
      have hRf := put8 (y := x) hR rfl
      have hBf := ((((((((hBr).setCell (p := ⟨w.heap.size + 1, 0, none⟩) (Nat.le_succ _) (.int .u32 x.x0)).setCell (p := ⟨w.heap.size + 1, 1, none⟩) (Nat.le_succ _) (.int .u32 x.x1)).setCell (p := ⟨w.heap.size + 1, 2, none⟩) (Nat.le_succ _) (.int .u32 x.x2)).setCell (p := ⟨w.heap.size + 1, 3, none⟩) (Nat.le_succ _) (.int .u32 x.x3)).setCell (p := ⟨w.heap.size + 1, 4, none⟩) (Nat.le_succ _) (.int .u32 x.x4)).setCell (p := ⟨w.heap.size + 1, 5, none⟩) (Nat.le_succ _) (.int .u32 x.x5)).setCell (p := ⟨w.heap.size + 1, 6, none⟩) (Nat.le_succ _) (.int .u32 x.x6)).setCell (p := ⟨w.heap.size + 1, 7, none⟩) (Nat.le_succ _) (.int .u32 x.x7)
      generalize ((((((((wr.setCell ⟨w.heap.size + 1, 0, none⟩ (.int .u32 x.x0)).setCell ⟨w.heap.size + 1, 1, none⟩ (.int .u32 x.x1)).setCell ⟨w.heap.size + 1, 2, none⟩ (.int .u32 x.x2)).setCell ⟨w.heap.size + 1, 3, none⟩ (.int .u32 x.x3)).setCell ⟨w.heap.size + 1, 4, none⟩ (.int .u32 x.x4)).setCell ⟨w.heap.size + 1, 5, none⟩ (.int .u32 x.x5)).setCell ⟨w.heap.size + 1, 6, none⟩ (.int .u32 x.x6)).setCell ⟨w.heap.size + 1, 7, none⟩ (.int .u32 x.x7)) = wf at *
      have r0 : wf.cell? ⟨w.heap.size + 1, 0, none⟩ = some (.int .u32 x.x0) := hRf.cell (j := 0) (by rw [S8.toL_len]; decide)
      have r1 : wf.cell? ⟨w.heap.size + 1, 1, none⟩ = some (.int .u32 x.x1) := hRf.cell (j := 1) (by rw [S8.toL_len]; decide)
      have r2 : wf.cell? ⟨w.heap.size + 1, 2, none⟩ = some (.int .u32 x.x2) := hRf.cell (j := 2) (by rw [S8.toL_len]; decide)
      have r3 : wf.cell? ⟨w.heap.size + 1, 3, none⟩ = some (.int .u32 x.x3) := hRf.cell (j := 3) (by rw [S8.toL_len]; decide)
      have r4 : wf.cell? ⟨w.heap.size + 1, 4, none⟩ = some (.int .u32 x.x4) := hRf.cell (j := 4) (by rw [S8.toL_len]; decide)
      have r5 : wf.cell? ⟨w.heap.size + 1, 5, none⟩ = some (.int .u32 x.x5) := hRf.cell (j := 5) (by rw [S8.toL_len]; decide)
      have r6 : wf.cell? ⟨w.heap.size + 1, 6, none⟩ = some (.int .u32 x.x6) := hRf.cell (j := 6) (by rw [S8.toL_len]; decide)
      have r7 : wf.cell? ⟨w.heap.size + 1, 7, none⟩ = some (.int .u32 x.x7) := hRf.cell (j := 7) (by rw [S8.toL_len]; decide)
      have hm := HX.out
      subst hm
      refine bodyPost_ret (v := (mixN 8 s).val) (by simp [results, Tryd.results78, go_sem, S8.val, r0, r1, r2, r3, r4, r5, r6, r7]) rfl ⟨rfl, hBf⟩
end

section
/-! The contract of the document's take: a block taken into a state. -/
open Go.RowKit

/-- A digest: four words. -/
structure D4 where
  (d0 d1 d2 d3 : Int)
def D4.ok (d : D4) : Prop := isW d.d0 ∧ isW d.d1 ∧ isW d.d2 ∧ isW d.d3
def D4.val (d : D4) : Value := .agg #[.int .u32 d.d0, .int .u32 d.d1, .int .u32 d.d2, .int .u32 d.d3]
def D4.toL (d : D4) : List Int := [d.d0, d.d1, d.d2, d.d3]
def xorS (s : S8) (d : D4) : S8 := ⟨xw s.x0 d.d0, xw s.x1 d.d1, xw s.x2 d.d2, xw s.x3 d.d3, s.x4, s.x5, s.x6, s.x7⟩
/-- The state with a block taken in. -/
def takeS (s : S8) (d : D4) : S8 := mixN 8 (xorS s d)
theorem xorS_ok {s : S8} {d : D4} (hs : s.ok) (hd : d.ok) : (xorS s d).ok := by
  obtain ⟨h0, h1, h2, h3, h4, h5, h6, h7⟩ := hs
  obtain ⟨e0, e1, e2, e3⟩ := hd
  exact ⟨xw_bd h0 e0, xw_bd h1 e1, xw_bd h2 e2, xw_bd h3 e3, h4, h5, h6, h7⟩
theorem takeS_ok {s : S8} {d : D4} (hs : s.ok) (hd : d.ok) : (takeS s d).ok := mixN_ok 8 (xorS_ok hs hd)
def xorP (L D : List Int) : Nat → List Int
  | 0 => L
  | n + 1 => (xorP L D n).set n (xw ((xorP L D n).getD n 0) (D.getD n 0))
theorem xorP_list (s : S8) (d : D4) : xorP s.toL d.toL 4 = (xorS s d).toL := by
  simp [xorP, S8.toL, D4.toL, xorS]
theorem xorP_len (L D : List Int) (n : Nat) : (xorP L D n).length = L.length := by
  induction n with
  | zero => rfl
  | succ n ih => rw [xorP, List.length_set, ih]
theorem xorP_ok {L D : List Int} (hL : allW L) (hD : allW D) (n : Nat) : allW (xorP L D n) := by
  induction n with
  | zero => exact hL
  | succ n ih => exact ih.put n (xw_bd (ih.get n) (hD.get n))
theorem D4.toL_ok {d : D4} (h : d.ok) : allW d.toL := by
  obtain ⟨h0, h1, h2, h3⟩ := h
  intro x hx
  simp only [D4.toL, List.mem_cons, List.not_mem_nil, or_false] at hx
  rcases hx with rfl | rfl | rfl | rfl <;> assumption

set_option maxHeartbeats 4000000 in
theorem take_any (s : S8) (d : D4) (w : World) (hs : s.ok) (hd : d.ok) : Calls Tryd.prog 63 #[s.val, d.val] w fun e w' => e = .returned (takeS s d).val ∧ Below w.heap.size w w' := by
  go_enter Tryd.func63, Tryd.ntmps63
  simp only [S8.val, D4.val]
  go_wp2_with fail
  go_loopw [5] (fun i wr => ∃ k : Nat, k ≤ 4 ∧ i = .int .i64 k ∧ Arr .u32 87 w.heap.size (xorP s.toL d.toL k) wr ∧ Arr .u32 24 (w.heap.size + 1) d.toL wr ∧ Arr .u32 87 (w.heap.size + 1 + 1) [0, 0, 0, 0, 0, 0, 0, 0] wr ∧ Below w.heap.size w wr) (fun i _ => 4 - (intOf i).toNat)
  case atStart =>
    have a1 : (w.alloc (.cells #[.int .u32 s.x0, .int .u32 s.x1, .int .u32 s.x2, .int .u32 s.x3, .int .u32 s.x4, .int .u32 s.x5, .int .u32 s.x6, .int .u32 s.x7] 87)).heap.size = w.heap.size + 1 := by simp
    have a2 : ((w.alloc (.cells #[.int .u32 s.x0, .int .u32 s.x1, .int .u32 s.x2, .int .u32 s.x3, .int .u32 s.x4, .int .u32 s.x5, .int .u32 s.x6, .int .u32 s.x7] 87)).alloc (.cells #[.int .u32 d.d0, .int .u32 d.d1, .int .u32 d.d2, .int .u32 d.d3] 24)).heap.size = w.heap.size + 1 + 1 := by simp
    refine ⟨0, by omega, rfl, ?_, ?_, ?_, ?_⟩
    · exact ((show Arr .u32 87 w.heap.size s.toL (w.alloc (.cells #[.int .u32 s.x0, .int .u32 s.x1, .int .u32 s.x2, .int .u32 s.x3, .int .u32 s.x4, .int .u32 s.x5, .int .u32 s.x6, .int .u32 s.x7] 87)) from heap_alloc_new w _).al _).al _
    · have h : Arr .u32 24 (w.alloc (.cells #[.int .u32 s.x0, .int .u32 s.x1, .int .u32 s.x2, .int .u32 s.x3, .int .u32 s.x4, .int .u32 s.x5, .int .u32 s.x6, .int .u32 s.x7] 87)).heap.size d.toL ((w.alloc (.cells #[.int .u32 s.x0, .int .u32 s.x1, .int .u32 s.x2, .int .u32 s.x3, .int .u32 s.x4, .int .u32 s.x5, .int .u32 s.x6, .int .u32 s.x7] 87)).alloc (.cells #[.int .u32 d.d0, .int .u32 d.d1, .int .u32 d.d2, .int .u32 d.d3] 24)) := heap_alloc_new (w.alloc (.cells #[.int .u32 s.x0, .int .u32 s.x1, .int .u32 s.x2, .int .u32 s.x3, .int .u32 s.x4, .int .u32 s.x5, .int .u32 s.x6, .int .u32 s.x7] 87)) _
      rw [a1] at h
      exact h.al _
    · have h : Arr .u32 87 ((w.alloc (.cells #[.int .u32 s.x0, .int .u32 s.x1, .int .u32 s.x2, .int .u32 s.x3, .int .u32 s.x4, .int .u32 s.x5, .int .u32 s.x6, .int .u32 s.x7] 87)).alloc (.cells #[.int .u32 d.d0, .int .u32 d.d1, .int .u32 d.d2, .int .u32 d.d3] 24)).heap.size [0, 0, 0, 0, 0, 0, 0, 0] (((w.alloc (.cells #[.int .u32 s.x0, .int .u32 s.x1, .int .u32 s.x2, .int .u32 s.x3, .int .u32 s.x4, .int .u32 s.x5, .int .u32 s.x6, .int .u32 s.x7] 87)).alloc (.cells #[.int .u32 d.d0, .int .u32 d.d1, .int .u32 d.d2, .int .u32 d.d3] 24)).alloc (.cells #[.int .u32 0, .int .u32 0, .int .u32 0, .int .u32 0, .int .u32 0, .int .u32 0, .int .u32 0, .int .u32 0] 87)) := heap_alloc_new ((w.alloc (.cells #[.int .u32 s.x0, .int .u32 s.x1, .int .u32 s.x2, .int .u32 s.x3, .int .u32 s.x4, .int .u32 s.x5, .int .u32 s.x6, .int .u32 s.x7] 87)).alloc (.cells #[.int .u32 d.d0, .int .u32 d.d1, .int .u32 d.d2, .int .u32 d.d3] 24)) _
      rw [a2] at h
      exact h
    · exact (((Below.refl _ _).alloc (Nat.le_refl _) _).alloc (by rw [a1]; omega) _).alloc (by rw [a2]; omega) _
  case round =>
    obtain ⟨k, hk, rfl, hA, hD, hR, hB⟩ := hrel
    by_cases hlt : k < 4
    · have hkd : decide ((k : Int) < 4) = true := by simp; omega
      have hMn : (xorP s.toL d.toL k).length = 8 := by rw [xorP_len]; rfl
      have hMo := xorP_ok (S8.toL_ok hs) (D4.toL_ok hd) k
      have hDn : d.toL.length = 4 := rfl
      obtain ⟨a, ha⟩ : ∃ a, (xorP s.toL d.toL k).getD k 0 = a := ⟨_, rfl⟩
      obtain ⟨b, hb⟩ : ∃ b, d.toL.getD k 0 = b := ⟨_, rfl⟩
      have haw : isW a := by rw [← ha]; exact hMo.get k
      have hbw : isW b := by rw [← hb]; exact (D4.toL_ok hd).get k
      have HP : Hid (xorP s.toL d.toL (k + 1) = (xorP s.toL d.toL k).set k (bits .xor .u32 a b)) := by
        show _ = _
        rw [xorP, ha, hb, bits_xw haw hbw]
      generalize xorP s.toL d.toL k = M at *
      have hc1 : wr.cell? ⟨w.heap.size, k, none⟩ = some (.int .u32 a) := by rw [← ha]; exact hA.cell (by omega)
      have hc2 : wr.cell? ⟨w.heap.size + 1, k, none⟩ = some (.int .u32 b) := by rw [← hb]; exact hD.cell (by omega)
      have hf1 := hA.fz k
      have hA1 := hA.set k (bits .xor .u32 a b)
      have hD1 := hD.far (a := ⟨w.heap.size, k, none⟩) (by simp) (.int .u32 (bits .xor .u32 a b))
      have hR1 := hR.far (a := ⟨w.heap.size, k, none⟩) (by show w.heap.size + 1 + 1 ≠ w.heap.size; omega) (.int .u32 (bits .xor .u32 a b))
      have hB1 := hB.setCell (p := ⟨w.heap.size, k, none⟩) (Nat.le_refl _) (.int .u32 (bits .xor .u32 a b))
      rw [← HP.out] at hA1
      go_wp2_with fail
      go_region
      go_wp2_with fail
      go_roundw
      case rel => exact ⟨k + 1, by omega, by go_num, hA1, hD1, hR1, hB1.drew⟩
      case measure => simp [intOf]; omega
    · have hk4 : k = 4 := by omega
      subst hk4
      obtain ⟨z, hz⟩ : ∃ z, xorS s d = z := ⟨_, rfl⟩
      have hzo : z.ok := by rw [← hz]; exact xorS_ok hs hd
      rw [xorP_list, hz] at hA
      have HZ : Hid (takeS s d = mixN 8 z) := by show _ = _; rw [takeS, hz]
      clear hz
      have t0 : wr.cell? ⟨w.heap.size, 0, none⟩ = some (.int .u32 z.x0) := hA.cell (j := 0) (by rw [S8.toL_len]; decide)
      have t1 : wr.cell? ⟨w.heap.size, 1, none⟩ = some (.int .u32 z.x1) := hA.cell (j := 1) (by rw [S8.toL_len]; decide)
      have t2 : wr.cell? ⟨w.heap.size, 2, none⟩ = some (.int .u32 z.x2) := hA.cell (j := 2) (by rw [S8.toL_len]; decide)
      have t3 : wr.cell? ⟨w.heap.size, 3, none⟩ = some (.int .u32 z.x3) := hA.cell (j := 3) (by rw [S8.toL_len]; decide)
      have t4 : wr.cell? ⟨w.heap.size, 4, none⟩ = some (.int .u32 z.x4) := hA.cell (j := 4) (by rw [S8.toL_len]; decide)
      have t5 : wr.cell? ⟨w.heap.size, 5, none⟩ = some (.int .u32 z.x5) := hA.cell (j := 5) (by rw [S8.toL_len]; decide)
      have t6 : wr.cell? ⟨w.heap.size, 6, none⟩ = some (.int .u32 z.x6) := hA.cell (j := 6) (by rw [S8.toL_len]; decide)
      have t7 : wr.cell? ⟨w.heap.size, 7, none⟩ = some (.int .u32 z.x7) := hA.cell (j := 7) (by rw [S8.toL_len]; decide)
      go_wp2_with fail
      refine (mix_any z _ hzo).mono ?_
      obtain ⟨y, hy⟩ : ∃ y, mixN 8 z = y := ⟨_, rfl⟩
      rw [hy]
      rw [hy] at HZ
      simp only [S8.val]
      rintro e w1 ⟨rfl, hBm⟩
      have hB1 := hB.trans (hBm.mono hB.size)
      have hR1 : Arr .u32 87 (w.heap.size + 1 + 1) [0, 0, 0, 0, 0, 0, 0, 0] w1 := by
        unfold Arr
        rw [hBm.block _ hR.lt]
        exact hR
      clear hA hD hB hBm hR t0 t1 t2 t3 t4 t5 t6 t7
      have b0 : w1.cell? ⟨w.heap.size + 1 + 1, 0, none⟩ = some (.int .u32 0) := hR1.cell (j := 0) (by decide)
      have f0 := hR1.fz 0
      have b1 : w1.cell? ⟨w.heap.size + 1 + 1, 1, none⟩ = some (.int .u32 0) := hR1.cell (j := 1) (by decide)
      have f1 := hR1.fz 1
      have b2 : w1.cell? ⟨w.heap.size + 1 + 1, 2, none⟩ = some (.int .u32 0) := hR1.cell (j := 2) (by decide)
      have f2 := hR1.fz 2
      have b3 : w1.cell? ⟨w.heap.size + 1 + 1, 3, none⟩ = some (.int .u32 0) := hR1.cell (j := 3) (by decide)
      have f3 := hR1.fz 3
      have b4 : w1.cell? ⟨w.heap.size + 1 + 1, 4, none⟩ = some (.int .u32 0) := hR1.cell (j := 4) (by decide)
      have f4 := hR1.fz 4
      have b5 : w1.cell? ⟨w.heap.size + 1 + 1, 5, none⟩ = some (.int .u32 0) := hR1.cell (j := 5) (by decide)
      have f5 := hR1.fz 5
      have b6 : w1.cell? ⟨w.heap.size + 1 + 1, 6, none⟩ = some (.int .u32 0) := hR1.cell (j := 6) (by decide)
      have f6 := hR1.fz 6
      have b7 : w1.cell? ⟨w.heap.size + 1 + 1, 7, none⟩ = some (.int .u32 0) := hR1.cell (j := 7) (by decide)
      have f7 := hR1.fz 7
      go_wp2_with fail
      have hRf := put8 (y := y) hR1 rfl
      have hBf := ((((((((hB1).setCell (p := ⟨w.heap.size + 1 + 1, 0, none⟩) (by show _ ≤ w.heap.size + 1 + 1; omega) (.int .u32 y.x0)).setCell (p := ⟨w.heap.size + 1 + 1, 1, none⟩) (by show _ ≤ w.heap.size + 1 + 1; omega) (.int .u32 y.x1)).setCell (p := ⟨w.heap.size + 1 + 1, 2, none⟩) (by show _ ≤ w.heap.size + 1 + 1; omega) (.int .u32 y.x2)).setCell (p := ⟨w.heap.size + 1 + 1, 3, none⟩) (by show _ ≤ w.heap.size + 1 + 1; omega) (.int .u32 y.x3)).setCell (p := ⟨w.heap.size + 1 + 1, 4, none⟩) (by show _ ≤ w.heap.size + 1 + 1; omega) (.int .u32 y.x4)).setCell (p := ⟨w.heap.size + 1 + 1, 5, none⟩) (by show _ ≤ w.heap.size + 1 + 1; omega) (.int .u32 y.x5)).setCell (p := ⟨w.heap.size + 1 + 1, 6, none⟩) (by show _ ≤ w.heap.size + 1 + 1; omega) (.int .u32 y.x6)).setCell (p := ⟨w.heap.size + 1 + 1, 7, none⟩) (by show _ ≤ w.heap.size + 1 + 1; omega) (.int .u32 y.x7)
      generalize ((((((((w1.setCell ⟨w.heap.size + 1 + 1, 0, none⟩ (.int .u32 y.x0)).setCell ⟨w.heap.size + 1 + 1, 1, none⟩ (.int .u32 y.x1)).setCell ⟨w.heap.size + 1 + 1, 2, none⟩ (.int .u32 y.x2)).setCell ⟨w.heap.size + 1 + 1, 3, none⟩ (.int .u32 y.x3)).setCell ⟨w.heap.size + 1 + 1, 4, none⟩ (.int .u32 y.x4)).setCell ⟨w.heap.size + 1 + 1, 5, none⟩ (.int .u32 y.x5)).setCell ⟨w.heap.size + 1 + 1, 6, none⟩ (.int .u32 y.x6)).setCell ⟨w.heap.size + 1 + 1, 7, none⟩ (.int .u32 y.x7)) = wf at *
      have r0 : wf.cell? ⟨w.heap.size + 1 + 1, 0, none⟩ = some (.int .u32 y.x0) := hRf.cell (j := 0) (by rw [S8.toL_len]; decide)
      have r1 : wf.cell? ⟨w.heap.size + 1 + 1, 1, none⟩ = some (.int .u32 y.x1) := hRf.cell (j := 1) (by rw [S8.toL_len]; decide)
      have r2 : wf.cell? ⟨w.heap.size + 1 + 1, 2, none⟩ = some (.int .u32 y.x2) := hRf.cell (j := 2) (by rw [S8.toL_len]; decide)
      have r3 : wf.cell? ⟨w.heap.size + 1 + 1, 3, none⟩ = some (.int .u32 y.x3) := hRf.cell (j := 3) (by rw [S8.toL_len]; decide)
      have r4 : wf.cell? ⟨w.heap.size + 1 + 1, 4, none⟩ = some (.int .u32 y.x4) := hRf.cell (j := 4) (by rw [S8.toL_len]; decide)
      have r5 : wf.cell? ⟨w.heap.size + 1 + 1, 5, none⟩ = some (.int .u32 y.x5) := hRf.cell (j := 5) (by rw [S8.toL_len]; decide)
      have r6 : wf.cell? ⟨w.heap.size + 1 + 1, 6, none⟩ = some (.int .u32 y.x6) := hRf.cell (j := 6) (by rw [S8.toL_len]; decide)
      have r7 : wf.cell? ⟨w.heap.size + 1 + 1, 7, none⟩ = some (.int .u32 y.x7) := hRf.cell (j := 7) (by rw [S8.toL_len]; decide)
      have hm : takeS s d = y := HZ.out
      rw [hm]
      refine bodyPost_ret (v := y.val) (by simp [results, Tryd.results63, go_sem, S8.val, r0, r1, r2, r3, r4, r5, r6, r7]) rfl ⟨rfl, hBf⟩
end

section
/-! What the layer's own code shares: its table of places, the cells of a whole state and of a whole digest, the world at the start of a call on a state. -/
open Go.RowKit Go.Lib

theorem Arr.c8 {t : TypeId} {b : Nat} {y : S8} {w : World} (h : Arr .u32 t b y.toL w) : w.cell? ⟨b, 0, none⟩ = some (.int .u32 y.x0) ∧ w.cell? ⟨b, 1, none⟩ = some (.int .u32 y.x1) ∧ w.cell? ⟨b, 2, none⟩ = some (.int .u32 y.x2) ∧ w.cell? ⟨b, 3, none⟩ = some (.int .u32 y.x3) ∧ w.cell? ⟨b, 4, none⟩ = some (.int .u32 y.x4) ∧ w.cell? ⟨b, 5, none⟩ = some (.int .u32 y.x5) ∧ w.cell? ⟨b, 6, none⟩ = some (.int .u32 y.x6) ∧ w.cell? ⟨b, 7, none⟩ = some (.int .u32 y.x7) :=
  ⟨h.cell (j := 0) (by rw [S8.toL_len]; decide), h.cell (j := 1) (by rw [S8.toL_len]; decide), h.cell (j := 2) (by rw [S8.toL_len]; decide), h.cell (j := 3) (by rw [S8.toL_len]; decide), h.cell (j := 4) (by rw [S8.toL_len]; decide), h.cell (j := 5) (by rw [S8.toL_len]; decide), h.cell (j := 6) (by rw [S8.toL_len]; decide), h.cell (j := 7) (by rw [S8.toL_len]; decide)⟩
theorem Arr.f8 {κ : IntKind} {t : TypeId} {b : Nat} {L : List Int} {w : World} (h : Arr κ t b L w) : w.frozen? ⟨b, 0, none⟩ = false ∧ w.frozen? ⟨b, 1, none⟩ = false ∧ w.frozen? ⟨b, 2, none⟩ = false ∧ w.frozen? ⟨b, 3, none⟩ = false ∧ w.frozen? ⟨b, 4, none⟩ = false ∧ w.frozen? ⟨b, 5, none⟩ = false ∧ w.frozen? ⟨b, 6, none⟩ = false ∧ w.frozen? ⟨b, 7, none⟩ = false :=
  ⟨h.fz 0, h.fz 1, h.fz 2, h.fz 3, h.fz 4, h.fz 5, h.fz 6, h.fz 7⟩
theorem D4.toL_len (d : D4) : d.toL.length = 4 := rfl
theorem Arr.c4 {t : TypeId} {b : Nat} {d : D4} {w : World} (h : Arr .u32 t b d.toL w) : w.cell? ⟨b, 0, none⟩ = some (.int .u32 d.d0) ∧ w.cell? ⟨b, 1, none⟩ = some (.int .u32 d.d1) ∧ w.cell? ⟨b, 2, none⟩ = some (.int .u32 d.d2) ∧ w.cell? ⟨b, 3, none⟩ = some (.int .u32 d.d3) :=
  ⟨h.cell (j := 0) (by rw [D4.toL_len]; decide), h.cell (j := 1) (by rw [D4.toL_len]; decide), h.cell (j := 2) (by rw [D4.toL_len]; decide), h.cell (j := 3) (by rw [D4.toL_len]; decide)⟩
theorem Arr.f4 {κ : IntKind} {t : TypeId} {b : Nat} {L : List Int} {w : World} (h : Arr κ t b L w) : w.frozen? ⟨b, 0, none⟩ = false ∧ w.frozen? ⟨b, 1, none⟩ = false ∧ w.frozen? ⟨b, 2, none⟩ = false ∧ w.frozen? ⟨b, 3, none⟩ = false :=
  ⟨h.fz 0, h.fz 1, h.fz 2, h.fz 3⟩
theorem Arr.thr {κ : IntKind} {t : TypeId} {b B : Nat} {L : List Int} {w w' : World} (h : Arr κ t b L w) (hB : Below B w w') (hb : b < B) : Arr κ t b L w' := by
  unfold Arr
  rw [hB.block b hb]
  exact h
theorem Arr.on {κ : IntKind} {t : TypeId} {b : Nat} {L : List Int} {w w' : World} (h : Arr κ t b L w) (hB : Below w.heap.size w w') : Arr κ t b L w' := h.thr hB h.lt
def zeroS : S8 := ⟨0, 0, 0, 0, 0, 0, 0, 0⟩
def zeroD : D4 := ⟨0, 0, 0, 0⟩
theorem zeroS_l : zeroS.toL = [0, 0, 0, 0, 0, 0, 0, 0] := rfl
theorem zeroD_l : zeroD.toL = [0, 0, 0, 0] := rfl
theorem set4 {N : List Int} (h : N.length = 4) (d : D4) : (((N.set 0 d.d0).set 1 d.d1).set 2 d.d2).set 3 d.d3 = d.toL := by
  match N, h with
  | [_, _, _, _], _ => rfl
theorem put4 {t : TypeId} {b : Nat} {N : List Int} {w : World} {d : D4} (h : Arr .u32 t b N w) (hn : N.length = 4) :
    Arr .u32 t b d.toL ((((w.setCell ⟨b, 0, none⟩ (.int .u32 d.d0)).setCell ⟨b, 1, none⟩ (.int .u32 d.d1)).setCell ⟨b, 2, none⟩ (.int .u32 d.d2)).setCell ⟨b, 3, none⟩ (.int .u32 d.d3)) := by
  rw [← set4 hn d]
  exact (((h.set 0 _).set 1 _).set 2 _).set 3 _
/-- Eight stores, four stores, in a block that is not below a bound. -/
theorem below_put8 {B b : Nat} {w w' : World} (h : Below B w w') (hb : B ≤ b) (y : S8) : Below B w ((((((((w'.setCell ⟨b, 0, none⟩ (.int .u32 y.x0)).setCell ⟨b, 1, none⟩ (.int .u32 y.x1)).setCell ⟨b, 2, none⟩ (.int .u32 y.x2)).setCell ⟨b, 3, none⟩ (.int .u32 y.x3)).setCell ⟨b, 4, none⟩ (.int .u32 y.x4)).setCell ⟨b, 5, none⟩ (.int .u32 y.x5)).setCell ⟨b, 6, none⟩ (.int .u32 y.x6)).setCell ⟨b, 7, none⟩ (.int .u32 y.x7)) :=
  (((((((h.setCell (p := ⟨b, 0, none⟩) hb _).setCell (p := ⟨b, 1, none⟩) hb _).setCell (p := ⟨b, 2, none⟩) hb _).setCell (p := ⟨b, 3, none⟩) hb _).setCell (p := ⟨b, 4, none⟩) hb _).setCell (p := ⟨b, 5, none⟩) hb _).setCell (p := ⟨b, 6, none⟩) hb _).setCell (p := ⟨b, 7, none⟩) hb _
theorem below_put4 {B b : Nat} {w w' : World} (h : Below B w w') (hb : B ≤ b) (d : D4) : Below B w ((((w'.setCell ⟨b, 0, none⟩ (.int .u32 d.d0)).setCell ⟨b, 1, none⟩ (.int .u32 d.d1)).setCell ⟨b, 2, none⟩ (.int .u32 d.d2)).setCell ⟨b, 3, none⟩ (.int .u32 d.d3)) :=
  (((h.setCell (p := ⟨b, 0, none⟩) hb _).setCell (p := ⟨b, 1, none⟩) hb _).setCell (p := ⟨b, 2, none⟩) hb _).setCell (p := ⟨b, 3, none⟩) hb _
theorem far8 {κ : IntKind} {t : TypeId} {c b : Nat} {L : List Int} {w : World} (h : Arr κ t c L w) (hne : c ≠ b) (y : S8) : Arr κ t c L ((((((((w.setCell ⟨b, 0, none⟩ (.int .u32 y.x0)).setCell ⟨b, 1, none⟩ (.int .u32 y.x1)).setCell ⟨b, 2, none⟩ (.int .u32 y.x2)).setCell ⟨b, 3, none⟩ (.int .u32 y.x3)).setCell ⟨b, 4, none⟩ (.int .u32 y.x4)).setCell ⟨b, 5, none⟩ (.int .u32 y.x5)).setCell ⟨b, 6, none⟩ (.int .u32 y.x6)).setCell ⟨b, 7, none⟩ (.int .u32 y.x7)) :=
  (((((((h.far (a := ⟨b, 0, none⟩) hne _).far (a := ⟨b, 1, none⟩) hne _).far (a := ⟨b, 2, none⟩) hne _).far (a := ⟨b, 3, none⟩) hne _).far (a := ⟨b, 4, none⟩) hne _).far (a := ⟨b, 5, none⟩) hne _).far (a := ⟨b, 6, none⟩) hne _).far (a := ⟨b, 7, none⟩) hne _
theorem far4 {κ : IntKind} {t : TypeId} {c b : Nat} {L : List Int} {w : World} (h : Arr κ t c L w) (hne : c ≠ b) (d : D4) : Arr κ t c L ((((w.setCell ⟨b, 0, none⟩ (.int .u32 d.d0)).setCell ⟨b, 1, none⟩ (.int .u32 d.d1)).setCell ⟨b, 2, none⟩ (.int .u32 d.d2)).setCell ⟨b, 3, none⟩ (.int .u32 d.d3)) :=
  (((h.far (a := ⟨b, 0, none⟩) hne _).far (a := ⟨b, 1, none⟩) hne _).far (a := ⟨b, 2, none⟩) hne _).far (a := ⟨b, 3, none⟩) hne _

theorem toL_of {N : List Int} (h : N.length = 8) : ∃ z : S8, N = z.toL := by
  match N, h with
  | [a, b, c, d, e, f, g, i], _ => exact ⟨⟨a, b, c, d, e, f, g, i⟩, rfl⟩
theorem toL_inj {y z : S8} (h : y.toL = z.toL) : y = z := by
  cases y; cases z
  simp only [S8.toL, List.cons.injEq, and_true] at h
  obtain ⟨h0, h1, h2, h3, h4, h5, h6, h7⟩ := h
  simp [h0, h1, h2, h3, h4, h5, h6, h7]
/-- A round's words, moved. -/
theorem round_moved {r : Nat} {x z : S8} (h : foldP 4 (x.toL.set 0 (aw x.x0 (rc r))) = z.toL) : (⟨z.x3, z.x4, z.x5, z.x6, z.x7, z.x0, z.x1, z.x2⟩ : S8) = rnd r x := by
  apply toL_inj
  rw [← round_list, h]; rfl
/-- A state boxed, and room for another one. -/
theorem start2 (s : S8) (w w0 : World) (h : (w.alloc (.cells #[.int .u32 s.x0, .int .u32 s.x1, .int .u32 s.x2, .int .u32 s.x3, .int .u32 s.x4, .int .u32 s.x5, .int .u32 s.x6, .int .u32 s.x7] 87)).alloc (.cells #[.int .u32 0, .int .u32 0, .int .u32 0, .int .u32 0, .int .u32 0, .int .u32 0, .int .u32 0, .int .u32 0] 87) = w0) :
    Arr .u32 87 w.heap.size s.toL w0 ∧ Arr .u32 87 (w.heap.size + 1) [0, 0, 0, 0, 0, 0, 0, 0] w0 ∧ Below w.heap.size w w0 := by
  subst h
  have a1 : (w.alloc (.cells #[.int .u32 s.x0, .int .u32 s.x1, .int .u32 s.x2, .int .u32 s.x3, .int .u32 s.x4, .int .u32 s.x5, .int .u32 s.x6, .int .u32 s.x7] 87)).heap.size = w.heap.size + 1 := by simp
  refine ⟨(show Arr .u32 87 w.heap.size s.toL _ from heap_alloc_new w _).al _, ?_, ((Below.refl _ _).alloc (Nat.le_refl _) _).alloc (by rw [a1]; omega) _⟩
  rw [← a1]
  exact heap_alloc_new (w.alloc _) _

/-- The places, as the code's table holds them. -/
def trnTab : List Int := [7, 9, 13, 18]
def TurnsOk (w : World) : Prop := TabIs Tryd.prog w "seedcorn/digest.turns" .i64 trnTab
theorem gTrn : Tryd.prog.globalNamed "seedcorn/digest.turns" = some 0 := by kernel_rfl
theorem TurnsOk.below {w w' : World} (h : TurnsOk w) (hB : Below w.heap.size w w') : TurnsOk w' := tab_below h gTrn (tab_low h gTrn) hB
theorem TurnsOk.cells {w : World} (h : TurnsOk w) : w.cell? ⟨0, 0, none⟩ = some (.int .i64 7) ∧ w.cell? ⟨0, 1, none⟩ = some (.int .i64 9) ∧ w.cell? ⟨0, 2, none⟩ = some (.int .i64 13) ∧ w.cell? ⟨0, 3, none⟩ = some (.int .i64 18) :=
  ⟨h.cell gTrn 0 (by decide), h.cell gTrn 1 (by decide), h.cell gTrn 2 (by decide), h.cell gTrn 3 (by decide)⟩
theorem index_turns {k : Nat} (h : k < 4) (w : World) : Sem.run Tryd.prog (Instr.index 118 (.agg #[.int .i64 7, .int .i64 9, .int .i64 13, .int .i64 18]) (.int .i64 (k : Int))) w = Result.ok (.int .i64 (kk k)) w := by
  match k, h with
  | 0, _ => simp [Instr.index, run_underlying Tryd.underlying118, asIntOf, go_sem, kk]
  | 1, _ => simp [Instr.index, run_underlying Tryd.underlying118, asIntOf, go_sem, kk]
  | 2, _ => simp [Instr.index, run_underlying Tryd.underlying118, asIntOf, go_sem, kk]
  | 3, _ => simp [Instr.index, run_underlying Tryd.underlying118, asIntOf, go_sem, kk]
theorem turn_code (a n : Int) (w : World) (ha : isW a) : Calls Tryd.prog 90 #[.int .u32 a, .int .i64 n] w fun e w' => e = .returned (.int .u32 (rotI a n)) ∧ w' = w :=
  (turn_any a n w ha.1 ha.2).mono fun _ _ h => ⟨h.1, h.2.symm⟩
end

section
/-! The contract of the code's Mix. -/
open Go.RowKit

set_option maxHeartbeats 4000000 in
set_option maxRecDepth 100000 in
theorem cmix_any (s : S8) (w : World) (hs : s.ok) (hT : TurnsOk w) : Calls Tryd.prog 82 #[s.val] w fun e w' => e = .returned (mixN 8 s).val ∧ Below w.heap.size w w' := by
  have HT := Lib.hid hT
  clear hT
  obtain ⟨w0, hw0⟩ : ∃ w0, (w.alloc (.cells #[.int .u32 s.x0, .int .u32 s.x1, .int .u32 s.x2, .int .u32 s.x3, .int .u32 s.x4, .int .u32 s.x5, .int .u32 s.x6, .int .u32 s.x7] 87)).alloc (.cells #[.int .u32 0, .int .u32 0, .int .u32 0, .int .u32 0, .int .u32 0, .int .u32 0, .int .u32 0, .int .u32 0] 87) = w0 := ⟨_, rfl⟩
  obtain ⟨hA0, hR0, hB0⟩ := start2 s w w0 hw0
  have HW := Lib.hid hw0
  clear hw0
  go_enter Tryd.func82, Tryd.ntmps82
  simp only [S8.val]
  go_wp2_with fail
  rw [HW.out]
  clear HW
  go_loopw [6] (fun i wr => ∃ (r : Nat) (x : S8), r ≤ 8 ∧ i = .int .u32 r ∧ x.ok ∧ Hid (x = mixN r s) ∧ Arr .u32 87 w.heap.size x.toL wr ∧ Arr .u32 87 (w.heap.size + 1) [0, 0, 0, 0, 0, 0, 0, 0] wr ∧ Below w.heap.size w wr) (fun i _ => 8 - (intOf i).toNat)
  case atStart => exact ⟨0, s, by omega, rfl, hs, rfl, hA0, hR0, hB0⟩
  case round =>
    clear hA0 hR0 hB0
    obtain ⟨r, x, hr, rfl, hx, HX, hA, hR, hBr⟩ := hrel
    by_cases hlt : r < 8
    · have hc0 : wr.cell? ⟨w.heap.size, 0, none⟩ = some (.int .u32 x.x0) := hA.cell (j := 0) (by rw [S8.toL_len]; decide)
      have hf0 := hA.fz 0
      have hd8 : decide ((r : Int) < 8) = true := by simp; omega
      have hR1 := hR.far (a := ⟨w.heap.size, 0, none⟩) (by simp) (.int .u32 ((x.x0 + 2654435769 * ((r : Int) + 1)) % 4294967296))
      have hB1 := hBr.setCell (p := ⟨w.heap.size, 0, none⟩) (Nat.le_refl _) (.int .u32 ((x.x0 + 2654435769 * ((r : Int) + 1)) % 4294967296))
      have hv : (x.x0 + 2654435769 * ((r : Int) + 1)) % 4294967296 = aw x.x0 (rc r) := by unfold aw rc; omega
      obtain ⟨L, hL⟩ : ∃ L, x.toL.set 0 (aw x.x0 (rc r)) = L := ⟨_, rfl⟩
      have hLn : L.length = 8 := by rw [← hL]; rfl
      have hLw : allW L := by rw [← hL]; exact (S8.toL_ok hx).put 0 (aw_bd _ _)
      have hA1 : Arr .u32 87 w.heap.size L (wr.setCell ⟨w.heap.size, 0, none⟩ (.int .u32 ((x.x0 + 2654435769 * ((r : Int) + 1)) % 4294967296))) := by
        rw [← hL, ← hv]; exact hA.set 0 _
      have HL := Lib.hid hL
      obtain ⟨g0, g1, g2, g3⟩ := (HT.out.below hB1).cells
      clear hL hv hA hR hBr
      go_wp2_with fail
      clear g0 g1 g2 g3
      generalize wr.setCell ⟨w.heap.size, 0, none⟩ (.int .u32 ((x.x0 + 2654435769 * ((r : Int) + 1)) % 4294967296)) = w2 at *
      clear hc0 hf0
      generalize (x.x0 + 2654435769 * ((r : Int) + 1) % 4294967296) % 4294967296 = z1
      generalize 2654435769 * ((r : Int) + 1) % 4294967296 = z2
      go_loopw [17] (fun i wi => ∃ k : Nat, k ≤ 4 ∧ i = .int .i64 k ∧ Arr .u32 87 w.heap.size (foldP k L) wi ∧ Arr .u32 87 (w.heap.size + 1) [0, 0, 0, 0, 0, 0, 0, 0] wi ∧ Below w.heap.size w wi) (fun i _ => 4 - (intOf i).toNat)
      case atStart => exact ⟨0, by omega, rfl, hA1, hR1, hB1⟩
      case round =>
        clear hA1 hR1 hB1
        obtain ⟨k, hk, rfl, hA, hR, hBk⟩ := hrel
        by_cases hlt4 : k < 4
        · have hMn : (foldP k L).length = 8 := by rw [foldP_len, hLn]
          have hMw := foldP_ok hLw k
          have HM : Hid (foldP (k + 1) L = stepP (kk k) k (foldP k L)) := rfl
          generalize foldP k L = M at *
          obtain ⟨a, ha⟩ : ∃ a, M.getD k 0 = a := ⟨_, rfl⟩
          obtain ⟨b, hb⟩ : ∃ b, M.getD (k + 4) 0 = b := ⟨_, rfl⟩
          have hc1 : wr.cell? ⟨w.heap.size, k, none⟩ = some (.int .u32 a) := by rw [← ha]; exact hA.cell (by omega)
          have hc2 : wr.cell? ⟨w.heap.size, k + 4, none⟩ = some (.int .u32 b) := by rw [← hb]; exact hA.cell (by omega)
          have hf1 := hA.fz k
          have hf2 := hA.fz (k + 4)
          have hk0 : (0 : Int) ≤ k := by omega
          have hk3 : (k : Int) < 4 := by omega
          have hix := index_turns hlt4 wr
          go_wp2_with fail
          clear hix
          go_region
          go_wp2_with fail
          have hA2 : Arr .u32 87 w.heap.size (M.set k (aw a b)) (wr.setCell ⟨w.heap.size, k, none⟩ (.int .u32 ((a + b) % 4294967296))).drew := hA.set k _
          have hR2 : Arr .u32 87 (w.heap.size + 1) [0, 0, 0, 0, 0, 0, 0, 0] (wr.setCell ⟨w.heap.size, k, none⟩ (.int .u32 ((a + b) % 4294967296))).drew := hR.far (a := ⟨w.heap.size, k, none⟩) (by simp) _
          have hB2 : Below w.heap.size w (wr.setCell ⟨w.heap.size, k, none⟩ (.int .u32 ((a + b) % 4294967296))).drew := (hBk.setCell (p := ⟨w.heap.size, k, none⟩) (Nat.le_refl _) _).drew
          generalize (wr.setCell ⟨w.heap.size, k, none⟩ (.int .u32 ((a + b) % 4294967296))).drew = w3 at *
          clear hc1 hc2 hf1 hf2 hA hR hBk
          have hc1 : w3.cell? ⟨w.heap.size, k, none⟩ = some (.int .u32 (aw a b)) := by
            have h := hA2.cell (j := k) (by rw [List.length_set]; omega)
            rw [h]; simp [List.getD, hMn, show k < 8 by omega]
          have hc2 : w3.cell? ⟨w.heap.size, k + 4, none⟩ = some (.int .u32 b) := by
            have h := hA2.cell (j := k + 4) (by rw [List.length_set]; omega)
            rw [h, ← hb]; simp [List.getD]
          have hf2 := hA2.fz (k + 4)
          have hbw : isW b := by rw [← hb]; exact hMw.get _
          have hcw : isW (aw a b) := aw_bd a b
          have hbx : isW (bits .xor .u32 b (aw a b)) := by rw [bits_xw hbw hcw]; exact xw_bd hbw hcw
          have HS : Hid (foldP (k + 1) L = (M.set k (aw a b)).set (k + 4) (rotI (bits .xor .u32 b (aw a b)) (kk k))) := by
            show _ = _
            rw [HM.out, bits_xw hbw hcw, stepP, ha, hb]
          generalize kk k = q at *
          generalize aw a b = c at *
          have e1 : IntKind.i64.wrap ((k : Int) + 4) = (k : Int) + 4 := IntWalk.i64_in _ (by omega)
          have e2 : (0 : Int) ≤ (k : Int) + 4 := by omega
          have e3 : ((k : Int) + 4).toNat = k + 4 := by omega
          have e4 : (k : Int) + 4 < 8 := by omega
          have e5 : (k : Int) < 8 := by omega
          go_still_tail 12, (by kernel_rfl)
          still_call (turn_code (bits .xor .u32 b c) q _ hbx)
          refine wpStill_nil ?_
          change wpList _ _ _ _ _ w3.drew
          have hA4 : Arr .u32 87 w.heap.size (M.set k c) w3.drew := hA2
          have hR4 : Arr .u32 87 (w.heap.size + 1) [0, 0, 0, 0, 0, 0, 0, 0] w3.drew := hR2
          have hB4 := hB2.drew
          have hc4 : w3.drew.cell? ⟨w.heap.size, k + 4, none⟩ = some (.int .u32 b) := hc2
          have hf4 : w3.drew.frozen? ⟨w.heap.size, k + 4, none⟩ = false := hf2
          generalize w3.drew = w4 at *
          clear hc1 hc2 hf2 hA2 hR2 hB2
          have hA5 := hA4.set (k + 4) (rotI (bits .xor .u32 b c) q)
          have hR5 := hR4.far (a := ⟨w.heap.size, k + 4, none⟩) (by simp) (.int .u32 (rotI (bits .xor .u32 b c) q))
          have hB5 := hB4.setCell (p := ⟨w.heap.size, k + 4, none⟩) (Nat.le_refl _) (.int .u32 (rotI (bits .xor .u32 b c) q))
          rw [← HS.out] at hA5
          clear hA4 hR4 hB4
          go_wp2_with fail
          go_roundw
          case rel => exact ⟨k + 1, by omega, by go_num, hA5, hR5, hB5⟩
          case measure => simp [intOf]; omega
        · have hk4 : k = 4 := by omega
          subst hk4
          obtain ⟨z, hz⟩ := toL_of (show (foldP 4 L).length = 8 by rw [foldP_len, hLn])
          have HY : Hid ((⟨z.x3, z.x4, z.x5, z.x6, z.x7, z.x0, z.x1, z.x2⟩ : S8) = mixN (r + 1) s) := by
            show _ = _
            rw [mixN_succ, ← HX.out]
            exact round_moved (by rw [HL.out]; exact hz)
          have hzo : (⟨z.x3, z.x4, z.x5, z.x6, z.x7, z.x0, z.x1, z.x2⟩ : S8).ok := by rw [HY.out, mixN_succ, ← HX.out]; exact rnd_ok r hx
          rw [hz] at hA
          clear hz
          obtain ⟨t0, t1, t2, t3, t4, t5, t6, t7⟩ := hA.c8
          obtain ⟨f0, f1, f2, f3, f4, f5, f6, f7⟩ := hA.f8
          have hAf := put8 (y := ⟨z.x3, z.x4, z.x5, z.x6, z.x7, z.x0, z.x1, z.x2⟩) hA rfl
          have hRf := far8 hR (by simp : w.heap.size + 1 ≠ w.heap.size) ⟨z.x3, z.x4, z.x5, z.x6, z.x7, z.x0, z.x1, z.x2⟩
          have hBf := below_put8 hBk (Nat.le_refl _) ⟨z.x3, z.x4, z.x5, z.x6, z.x7, z.x0, z.x1, z.x2⟩
          clear hA hR hBk
          go_wp2_with fail
          go_roundw
          case rel => exact ⟨r + 1, _, by omega, by go_num, hzo, HY, hAf, hRf, hBf⟩
          case measure => simp [intOf]; omega
    · have hr8 : r = 8 := by omega
      subst hr8
      obtain ⟨t0, t1, t2, t3, t4, t5, t6, t7⟩ := hA.c8
      obtain ⟨b0, b1, b2, b3, b4, b5, b6, b7⟩ := Arr.c8 (y := zeroS) hR
      obtain ⟨f0, f1, f2, f3, f4, f5, f6, f7⟩ := hR.f8
      have hRf := put8 (y := x) hR rfl
      have hBf := below_put8 hBr (Nat.le_succ _) x
      clear hA hR hBr
      go_wp2_with fail
      generalize ((((((((wr.setCell ⟨w.heap.size + 1, 0, none⟩ (.int .u32 x.x0)).setCell ⟨w.heap.size + 1, 1, none⟩ (.int .u32 x.x1)).setCell ⟨w.heap.size + 1, 2, none⟩ (.int .u32 x.x2)).setCell ⟨w.heap.size + 1, 3, none⟩ (.int .u32 x.x3)).setCell ⟨w.heap.size + 1, 4, none⟩ (.int .u32 x.x4)).setCell ⟨w.heap.size + 1, 5, none⟩ (.int .u32 x.x5)).setCell ⟨w.heap.size + 1, 6, none⟩ (.int .u32 x.x6)).setCell ⟨w.heap.size + 1, 7, none⟩ (.int .u32 x.x7)) = wf at *
      obtain ⟨r0, r1, r2, r3, r4, r5, r6, r7⟩ := hRf.c8
      refine bodyPost_ret (v := x.val) (by simp [results, Tryd.results82, go_sem, S8.val, r0, r1, r2, r3, r4, r5, r6, r7]) rfl ⟨by rw [← HX.out]; rfl, hBf⟩
end

section
/-! The contracts of the code's take and first. -/
open Go.RowKit

theorem index_four (d : D4) {k : Nat} (h : k < 4) (w : World) : Sem.run Tryd.prog (Instr.index 23 (.agg #[.int .u32 d.d0, .int .u32 d.d1, .int .u32 d.d2, .int .u32 d.d3]) (.int .i64 (k : Int))) w = Result.ok (.int .u32 (d.toL.getD k 0)) w := by
  match k, h with
  | 0, _ => simp [Instr.index, run_underlying Tryd.underlying23, asIntOf, go_sem, D4.toL]
  | 1, _ => simp [Instr.index, run_underlying Tryd.underlying23, asIntOf, go_sem, D4.toL]
  | 2, _ => simp [Instr.index, run_underlying Tryd.underlying23, asIntOf, go_sem, D4.toL]
  | 3, _ => simp [Instr.index, run_underlying Tryd.underlying23, asIntOf, go_sem, D4.toL]
theorem index_dig (d : D4) {k : Nat} (h : k < 4) (w : World) : Sem.run Tryd.prog (Instr.index 24 (.agg #[.int .u32 d.d0, .int .u32 d.d1, .int .u32 d.d2, .int .u32 d.d3]) (.int .i64 (k : Int))) w = Result.ok (.int .u32 (d.toL.getD k 0)) w := by
  match k, h with
  | 0, _ => simp [Instr.index, run_underlying Tryd.underlying24, asIntOf, go_sem, D4.toL]
  | 1, _ => simp [Instr.index, run_underlying Tryd.underlying24, asIntOf, go_sem, D4.toL]
  | 2, _ => simp [Instr.index, run_underlying Tryd.underlying24, asIntOf, go_sem, D4.toL]
  | 3, _ => simp [Instr.index, run_underlying Tryd.underlying24, asIntOf, go_sem, D4.toL]

/-- A state and a block boxed, and room for another state. -/
theorem start3 (s : S8) (d : D4) (w w0 : World) (h : ((w.alloc (.cells #[.int .u32 s.x0, .int .u32 s.x1, .int .u32 s.x2, .int .u32 s.x3, .int .u32 s.x4, .int .u32 s.x5, .int .u32 s.x6, .int .u32 s.x7] 87)).alloc (.cells #[.int .u32 d.d0, .int .u32 d.d1, .int .u32 d.d2, .int .u32 d.d3] 23)).alloc (.cells #[.int .u32 0, .int .u32 0, .int .u32 0, .int .u32 0, .int .u32 0, .int .u32 0, .int .u32 0, .int .u32 0] 87) = w0) :
    Arr .u32 87 w.heap.size s.toL w0 ∧ Arr .u32 23 (w.heap.size + 1) d.toL w0 ∧ Arr .u32 87 (w.heap.size + 1 + 1) [0, 0, 0, 0, 0, 0, 0, 0] w0 ∧ Below w.heap.size w w0 := by
  subst h
  obtain ⟨w1, h1⟩ : ∃ w1, w.alloc (.cells #[.int .u32 s.x0, .int .u32 s.x1, .int .u32 s.x2, .int .u32 s.x3, .int .u32 s.x4, .int .u32 s.x5, .int .u32 s.x6, .int .u32 s.x7] 87) = w1 := ⟨_, rfl⟩
  have hA1 : Arr .u32 87 w.heap.size s.toL w1 := by rw [← h1]; exact heap_alloc_new w _
  have a1 : w1.heap.size = w.heap.size + 1 := by rw [← h1]; simp
  have B1 : Below w.heap.size w w1 := by rw [← h1]; exact (Below.refl _ _).alloc (Nat.le_refl _) _
  rw [h1]
  obtain ⟨w2, h2⟩ : ∃ w2, w1.alloc (.cells #[.int .u32 d.d0, .int .u32 d.d1, .int .u32 d.d2, .int .u32 d.d3] 23) = w2 := ⟨_, rfl⟩
  have hD2 : Arr .u32 23 w1.heap.size d.toL w2 := by rw [← h2]; exact heap_alloc_new w1 _
  have hA2 : Arr .u32 87 w.heap.size s.toL w2 := by rw [← h2]; exact hA1.al _
  have a2 : w2.heap.size = w.heap.size + 1 + 1 := by rw [← h2]; simp [a1]
  have B2 : Below w.heap.size w w2 := by rw [← h2]; exact B1.alloc (by omega) _
  rw [h2]
  refine ⟨hA2.al _, by rw [← a1]; exact hD2.al _, ?_, B2.alloc (by omega) _⟩
  rw [← a2]
  exact heap_alloc_new w2 _

set_option maxHeartbeats 4000000 in
theorem ctake_any (s : S8) (d : D4) (w : World) (hs : s.ok) (hd : d.ok) (hT : TurnsOk w) : Calls Tryd.prog 69 #[s.val, d.val] w fun e w' => e = .returned (takeS s d).val ∧ Below w.heap.size w w' := by
  have HT := Lib.hid hT
  clear hT
  obtain ⟨w0, hw0⟩ : ∃ w0, ((w.alloc (.cells #[.int .u32 s.x0, .int .u32 s.x1, .int .u32 s.x2, .int .u32 s.x3, .int .u32 s.x4, .int .u32 s.x5, .int .u32 s.x6, .int .u32 s.x7] 87)).alloc (.cells #[.int .u32 d.d0, .int .u32 d.d1, .int .u32 d.d2, .int .u32 d.d3] 23)).alloc (.cells #[.int .u32 0, .int .u32 0, .int .u32 0, .int .u32 0, .int .u32 0, .int .u32 0, .int .u32 0, .int .u32 0] 87) = w0 := ⟨_, rfl⟩
  obtain ⟨hA0, hD0, hR0, hB0⟩ := start3 s d w w0 hw0
  have HW := Lib.hid hw0
  clear hw0
  go_enter Tryd.func69, Tryd.ntmps69
  simp only [S8.val, D4.val]
  go_wp2_with fail
  rw [HW.out]
  clear HW
  go_loopw [8] (fun i wr => ∃ k : Nat, k ≤ 4 ∧ i = .int .i64 k ∧ Arr .u32 87 w.heap.size (xorP s.toL d.toL k) wr ∧ Arr .u32 87 (w.heap.size + 1 + 1) [0, 0, 0, 0, 0, 0, 0, 0] wr ∧ Below w.heap.size w wr) (fun i _ => 4 - (intOf i).toNat)
  case atStart => exact ⟨0, by omega, rfl, hA0, hR0, hB0⟩
  case round =>
    clear hA0 hD0 hR0 hB0
    obtain ⟨k, hk, rfl, hA, hR, hB⟩ := hrel
    by_cases hlt : k < 4
    · have hkd : decide ((k : Int) < 4) = true := by simp; omega
      have hMn : (xorP s.toL d.toL k).length = 8 := by rw [xorP_len]; rfl
      have hMo := xorP_ok (S8.toL_ok hs) (D4.toL_ok hd) k
      have hix := index_four d hlt wr
      obtain ⟨a, ha⟩ : ∃ a, (xorP s.toL d.toL k).getD k 0 = a := ⟨_, rfl⟩
      obtain ⟨b, hb⟩ : ∃ b, d.toL.getD k 0 = b := ⟨_, rfl⟩
      have haw : isW a := by rw [← ha]; exact hMo.get k
      have hbw : isW b := by rw [← hb]; exact (D4.toL_ok hd).get k
      have HP : Hid (xorP s.toL d.toL (k + 1) = (xorP s.toL d.toL k).set k (bits .xor .u32 a b)) := by
        show _ = _
        rw [xorP, ha, hb, bits_xw haw hbw]
      rw [hb] at hix
      generalize xorP s.toL d.toL k = M at *
      have hc1 : wr.cell? ⟨w.heap.size, k, none⟩ = some (.int .u32 a) := by rw [← ha]; exact hA.cell (by omega)
      clear ha hb
      have hf1 := hA.fz k
      have hA1 := hA.set k (bits .xor .u32 a b)
      have hR1 := hR.far (a := ⟨w.heap.size, k, none⟩) (by show w.heap.size + 1 + 1 ≠ w.heap.size; omega) (.int .u32 (bits .xor .u32 a b))
      have hB1 := hB.setCell (p := ⟨w.heap.size, k, none⟩) (Nat.le_refl _) (.int .u32 (bits .xor .u32 a b))
      rw [← HP.out] at hA1
      clear hA hR hB
      go_wp2_with fail
      go_roundw
      case rel => exact ⟨k + 1, by omega, by go_num, hA1, hR1, hB1⟩
      case measure => simp [intOf]; omega
    · have hk4 : k = 4 := by omega
      subst hk4
      obtain ⟨z, hz⟩ : ∃ z, xorS s d = z := ⟨_, rfl⟩
      have hzo : z.ok := by rw [← hz]; exact xorS_ok hs hd
      rw [xorP_list, hz] at hA
      have HZ : Hid (takeS s d = mixN 8 z) := by show _ = _; rw [takeS, hz]
      clear hz
      obtain ⟨t0, t1, t2, t3, t4, t5, t6, t7⟩ := hA.c8
      have HT2 := Lib.hid (HT.out.below hB)
      go_wp2_with fail
      refine (cmix_any z _ hzo HT2.out).mono ?_
      obtain ⟨y, hy⟩ : ∃ y, mixN 8 z = y := ⟨_, rfl⟩
      rw [hy]
      rw [hy] at HZ
      simp only [S8.val]
      rintro e w1 ⟨rfl, hBm⟩
      have hB1 := hB.trans (hBm.mono hB.size)
      have hR1 := hR.on hBm
      clear hA hB hBm hR t0 t1 t2 t3 t4 t5 t6 t7
      obtain ⟨b0, b1, b2, b3, b4, b5, b6, b7⟩ := Arr.c8 (y := zeroS) hR1
      obtain ⟨f0, f1, f2, f3, f4, f5, f6, f7⟩ := hR1.f8
      go_wp2_with fail
      have hRf := put8 (y := y) hR1 rfl
      have hBf := below_put8 hB1 (by omega : w.heap.size ≤ w.heap.size + 1 + 1) y
      generalize ((((((((w1.setCell ⟨w.heap.size + 1 + 1, 0, none⟩ (.int .u32 y.x0)).setCell ⟨w.heap.size + 1 + 1, 1, none⟩ (.int .u32 y.x1)).setCell ⟨w.heap.size + 1 + 1, 2, none⟩ (.int .u32 y.x2)).setCell ⟨w.heap.size + 1 + 1, 3, none⟩ (.int .u32 y.x3)).setCell ⟨w.heap.size + 1 + 1, 4, none⟩ (.int .u32 y.x4)).setCell ⟨w.heap.size + 1 + 1, 5, none⟩ (.int .u32 y.x5)).setCell ⟨w.heap.size + 1 + 1, 6, none⟩ (.int .u32 y.x6)).setCell ⟨w.heap.size + 1 + 1, 7, none⟩ (.int .u32 y.x7)) = wf at *
      obtain ⟨r0, r1, r2, r3, r4, r5, r6, r7⟩ := hRf.c8
      refine bodyPost_ret (v := y.val) (by simp [results, Tryd.results69, go_sem, S8.val, r0, r1, r2, r3, r4, r5, r6, r7]) rfl ⟨by rw [HZ.out]; rfl, hBf⟩

def frontS (s : S8) : D4 := ⟨s.x0, s.x1, s.x2, s.x3⟩
theorem frontS_ok {s : S8} (h : s.ok) : (frontS s).ok := ⟨h.1, h.2.1, h.2.2.1, h.2.2.2.1⟩
/-- A state boxed, and room for a digest. -/
theorem start84 (s : S8) (w w0 : World) (h : (w.alloc (.cells #[.int .u32 s.x0, .int .u32 s.x1, .int .u32 s.x2, .int .u32 s.x3, .int .u32 s.x4, .int .u32 s.x5, .int .u32 s.x6, .int .u32 s.x7] 87)).alloc (.cells #[.int .u32 0, .int .u32 0, .int .u32 0, .int .u32 0] 24) = w0) :
    Arr .u32 87 w.heap.size s.toL w0 ∧ Arr .u32 24 (w.heap.size + 1) [0, 0, 0, 0] w0 ∧ Below w.heap.size w w0 := by
  subst h
  obtain ⟨w1, h1⟩ : ∃ w1, w.alloc (.cells #[.int .u32 s.x0, .int .u32 s.x1, .int .u32 s.x2, .int .u32 s.x3, .int .u32 s.x4, .int .u32 s.x5, .int .u32 s.x6, .int .u32 s.x7] 87) = w1 := ⟨_, rfl⟩
  have hA1 : Arr .u32 87 w.heap.size s.toL w1 := by rw [← h1]; exact heap_alloc_new w _
  have a1 : w1.heap.size = w.heap.size + 1 := by rw [← h1]; simp
  have B1 : Below w.heap.size w w1 := by rw [← h1]; exact (Below.refl _ _).alloc (Nat.le_refl _) _
  rw [h1]
  refine ⟨hA1.al _, ?_, B1.alloc (by omega) _⟩
  rw [← a1]
  exact heap_alloc_new w1 _
set_option maxHeartbeats 4000000 in
theorem cfirst_any (s : S8) (w : World) : Calls Tryd.prog 66 #[s.val] w fun e w' => e = .returned (frontS s).val ∧ Below w.heap.size w w' := by
  obtain ⟨w0, hw0⟩ : ∃ w0, (w.alloc (.cells #[.int .u32 s.x0, .int .u32 s.x1, .int .u32 s.x2, .int .u32 s.x3, .int .u32 s.x4, .int .u32 s.x5, .int .u32 s.x6, .int .u32 s.x7] 87)).alloc (.cells #[.int .u32 0, .int .u32 0, .int .u32 0, .int .u32 0] 24) = w0 := ⟨_, rfl⟩
  obtain ⟨hA, hR, hB⟩ := start84 s w w0 hw0
  obtain ⟨t0, t1, t2, t3, t4, t5, t6, t7⟩ := hA.c8
  obtain ⟨b0, b1, b2, b3⟩ := Arr.c4 (d := zeroD) hR
  obtain ⟨f0, f1, f2, f3⟩ := hR.f4
  have har := run_arrayAt (P := Tryd.prog) (w := w0) 24 22 4 (some ⟨w.heap.size, 0, none⟩) 4 8 Tryd.underlying24 (by decide)
  have hRf := put4 (d := frontS s) hR rfl
  have hBf := below_put4 hB (by omega : w.heap.size ≤ w.heap.size + 1) (frontS s)
  clear hR hB
  go_enter Tryd.func66, Tryd.ntmps66
  simp only [S8.val]
  go_wp2_with fail
  clear hw0
  simp only [frontS] at hRf hBf
  generalize (((w0.setCell ⟨w.heap.size + 1, 0, none⟩ (.int .u32 s.x0)).setCell ⟨w.heap.size + 1, 1, none⟩ (.int .u32 s.x1)).setCell ⟨w.heap.size + 1, 2, none⟩ (.int .u32 s.x2)).setCell ⟨w.heap.size + 1, 3, none⟩ (.int .u32 s.x3) = wf at *
  obtain ⟨r0, r1, r2, r3⟩ := Arr.c4 (d := ⟨s.x0, s.x1, s.x2, s.x3⟩) hRf
  simp only at r0 r1 r2 r3
  refine bodyPost_ret (v := (frontS s).val) (by simp [results, Tryd.results66, go_sem, D4.val, frontS, r0, r1, r2, r3]) rfl ⟨rfl, hBf⟩
/-- Room for a digest. -/
theorem start4 (w w0 : World) (h : w.alloc (.cells #[.int .u32 0, .int .u32 0, .int .u32 0, .int .u32 0] 24) = w0) :
    Arr .u32 24 w.heap.size [0, 0, 0, 0] w0 ∧ Below w.heap.size w w0 := by
  subst h
  exact ⟨heap_alloc_new w _, (Below.refl _ _).alloc (Nat.le_refl _) _⟩
end

end Go.Proofs.YtdphhpmkcalahaaDoor
