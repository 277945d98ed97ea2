/-
  Plain mathematics of mixed states: one round, its way back, eight of them. No program is named here.
-/
import Derived.Test.YtepcpjppogcjbaaDoorRot
namespace Go.Proofs.YtepcpjppogcjbaaDoor

/-- Eight words. -/
structure S8 where
  (x0 x1 x2 x3 x4 x5 x6 x7 : Int)
/-- Is it a word? -/
def isW (a : Int) : Prop := 0 ≤ a ∧ a < 4294967296
def S8.ok (s : S8) : Prop := isW s.x0 ∧ isW s.x1 ∧ isW s.x2 ∧ isW s.x3 ∧ isW s.x4 ∧ isW s.x5 ∧ isW s.x6 ∧ isW s.x7
/-- Exclusive or, sum, difference of words. -/
def xw (a b : Int) : Int := ((a.toNat ^^^ b.toNat : Nat) : Int)
def aw (a b : Int) : Int := (a + b) % 4294967296
def dw (a b : Int) : Int := (a - b) % 4294967296
theorem xw_bd {a b : Int} (ha : isW a) (hb : isW b) : isW (xw a b) := by
  unfold isW xw at *
  have h := Nat.xor_lt_two_pow (n := 32) (x := a.toNat) (y := b.toNat) (by omega) (by omega)
  omega
theorem aw_bd (a b : Int) : isW (aw a b) := by unfold isW aw; omega
theorem dw_bd (a b : Int) : isW (dw a b) := by unfold isW dw; omega
theorem rot_bd {a : Int} (ha : isW a) (n : Int) : isW (rotI a n) := rotI_bd a n ha.2
theorem xw_back {a b : Int} (ha : isW a) (_hb : isW b) : xw (xw a b) b = a := by
  unfold isW at ha
  unfold xw
  rw [Int.toNat_natCast, Nat.xor_assoc, Nat.xor_self, Nat.xor_zero]
  omega
theorem dw_aw {a b : Int} (ha : isW a) (_hb : isW b) : dw (aw a b) b = a := by unfold isW dw aw at *; omega
theorem aw_dw {a b : Int} (ha : isW a) (_hb : isW b) : aw (dw a b) b = a := by unfold isW dw aw at *; omega
theorem rot_add (a i j : Int) (ha : isW a) (h : (i + j) % 32 = 0) : rotI (rotI a i) j = a := by
  unfold isW at ha
  unfold rotI
  rw [Int.toNat_natCast, rotN_add, rotN_mod _ _ (by omega)]
  have e : ((i % 32).toNat + (j % 32).toNat) % 32 = 0 := by omega
  rw [e]
  show ((a.toNat : Nat) : Int) = a
  omega
theorem rot_back {a : Int} (n : Int) (ha : isW a) : rotI (rotI a n) (-n) = a := rot_add a n (-n) ha (by omega)
theorem rot_forth {a : Int} (n : Int) (ha : isW a) : rotI (rotI a (-n)) n = a := rot_add a (-n) n ha (by omega)

/-- A pair of words, a step on: the sum; what is turned. And back. -/
def qa (a b : Int) : Int := aw a b
def qb (k a b : Int) : Int := rotI (xw b (aw a b)) k
def pb (k a b : Int) : Int := xw (rotI b (-k)) a
def pa (k a b : Int) : Int := dw a (pb k a b)
theorem qa_bd (a b : Int) : isW (qa a b) := aw_bd a b
theorem qb_bd (k : Int) {a b : Int} (hb : isW b) : isW (qb k a b) := rot_bd (xw_bd hb (aw_bd a b)) k
theorem pb_bd (k : Int) {a b : Int} (ha : isW a) (hb : isW b) : isW (pb k a b) := xw_bd (rot_bd hb _) ha
theorem pa_bd (k a b : Int) : isW (pa k a b) := dw_bd _ _
theorem pb_q (k : Int) {a b : Int} (hb : isW b) : pb k (qa a b) (qb k a b) = b := by
  unfold pb qa qb
  rw [rot_back k (xw_bd hb (aw_bd a b)), xw_back hb (aw_bd a b)]
theorem pa_q (k : Int) {a b : Int} (ha : isW a) (hb : isW b) : pa k (qa a b) (qb k a b) = a := by
  unfold pa
  rw [pb_q k hb]
  exact dw_aw ha hb
theorem qa_p (k : Int) {a b : Int} (ha : isW a) (hb : isW b) : qa (pa k a b) (pb k a b) = a := by
  unfold qa pa
  exact aw_dw ha (pb_bd k ha hb)
theorem qb_p (k : Int) {a b : Int} (ha : isW a) (hb : isW b) : qb k (pa k a b) (pb k a b) = b := by
  have h := qa_p k ha hb
  unfold qa at h
  unfold qb
  rw [h]
  unfold pb
  rw [xw_back (rot_bd hb _) ha]
  exact rot_forth k hb

/-- What is added in a round. -/
def rc (r : Nat) : Int := 2654435769 * ((r : Int) + 1) % 4294967296
theorem rc_bd (r : Nat) : isW (rc r) := by unfold isW rc; omega
/-- One round. -/
def rnd (r : Nat) (s : S8) : S8 :=
  ⟨qa s.x3 s.x7, qb 7 (aw s.x0 (rc r)) s.x4, qb 9 s.x1 s.x5, qb 13 s.x2 s.x6, qb 18 s.x3 s.x7, qa (aw s.x0 (rc r)) s.x4, qa s.x1 s.x5, qa s.x2 s.x6⟩
/-- And back. -/
def unr (r : Nat) (s : S8) : S8 :=
  ⟨dw (pa 7 s.x5 s.x1) (rc r), pa 9 s.x6 s.x2, pa 13 s.x7 s.x3, pa 18 s.x0 s.x4, pb 7 s.x5 s.x1, pb 9 s.x6 s.x2, pb 13 s.x7 s.x3, pb 18 s.x0 s.x4⟩
theorem rnd_ok (r : Nat) {s : S8} (h : s.ok) : (rnd r s).ok := by
  obtain ⟨_, _, _, _, h4, h5, h6, h7⟩ := h
  exact ⟨qa_bd _ _, qb_bd _ h4, qb_bd _ h5, qb_bd _ h6, qb_bd _ h7, qa_bd _ _, qa_bd _ _, qa_bd _ _⟩
theorem unr_ok (r : Nat) {s : S8} (h : s.ok) : (unr r s).ok := by
  obtain ⟨h0, h1, h2, h3, h4, h5, h6, h7⟩ := h
  exact ⟨dw_bd _ _, pa_bd _ _ _, pa_bd _ _ _, pa_bd _ _ _, pb_bd _ h5 h1, pb_bd _ h6 h2, pb_bd _ h7 h3, pb_bd _ h0 h4⟩
theorem unr_rnd (r : Nat) {s : S8} (h : s.ok) : unr r (rnd r s) = s := by
  obtain ⟨h0, h1, h2, h3, h4, h5, h6, h7⟩ := h
  cases s
  simp only [unr, rnd] at *
  rw [pa_q 7 (aw_bd _ _) h4, pa_q 9 h1 h5, pa_q 13 h2 h6, pa_q 18 h3 h7, pb_q 7 h4, pb_q 9 h5, pb_q 13 h6, pb_q 18 h7, dw_aw h0 (rc_bd r)]
theorem rnd_unr (r : Nat) {s : S8} (h : s.ok) : rnd r (unr r s) = s := by
  obtain ⟨h0, h1, h2, h3, h4, h5, h6, h7⟩ := h
  cases s
  simp only [unr, rnd] at *
  rw [aw_dw (pa_bd _ _ _) (rc_bd r), qa_p 7 h5 h1, qa_p 9 h6 h2, qa_p 13 h7 h3, qa_p 18 h0 h4, qb_p 7 h5 h1, qb_p 9 h6 h2, qb_p 13 h7 h3, qb_p 18 h0 h4]
/-- So many rounds; so many, back. -/
def mixN : Nat → S8 → S8
  | 0, s => s
  | n + 1, s => rnd n (mixN n s)
def unmN : Nat → S8 → S8
  | 0, s => s
  | n + 1, s => unmN n (unr n s)
theorem mixN_succ (n : Nat) (s : S8) : mixN (n + 1) s = rnd n (mixN n s) := rfl
theorem unmN_succ (n : Nat) (s : S8) : unmN (n + 1) s = unmN n (unr n s) := rfl
theorem mixN_ok (n : Nat) {s : S8} (h : s.ok) : (mixN n s).ok := by
  induction n with
  | zero => exact h
  | succ n ih => exact rnd_ok n ih
theorem unmN_ok (n : Nat) : ∀ {s : S8}, s.ok → (unmN n s).ok := by
  induction n with
  | zero => intro s h; exact h
  | succ n ih => intro s h; exact ih (unr_ok n h)
theorem unm_mix (n : Nat) {s : S8} (h : s.ok) : unmN n (mixN n s) = s := by
  induction n with
  | zero => rfl
  | succ n ih =>
    rw [mixN_succ, unmN_succ, unr_rnd n (mixN_ok n h), ih]
theorem mix_unm (n : Nat) : ∀ {s : S8}, s.ok → mixN n (unmN n s) = s := by
  induction n with
  | zero => intro s _; rfl
  | succ n ih =>
    intro s h
    rw [mixN_succ, unmN_succ, ih (unr_ok n h), rnd_unr n h]
theorem mix_inj (n : Nat) {s t : S8} (hs : s.ok) (ht : t.ok) : mixN n s = mixN n t ↔ s = t := by
  constructor
  · intro h
    rw [← unm_mix n hs, ← unm_mix n ht, h]
  · intro h; rw [h]
end Go.Proofs.YtepcpjppogcjbaaDoor
