/-
  The walk of OnetimeGives (written by gen_laws5.py).
-/
import Derived.Test.YtkgkmpelclmllaaDoorOtLA
import Derived.Test.YtkgkmpelclmllaaDoorOtV
import Derived.Test.YtkgkmpelclmllaaDoorOtQ
namespace Go.Proofs.YtkgkmpelclmllaaDoor
open Go.RowKit

theorem keepB3 {B b c d : Nat} {W w' : World} {x y z : D4} (h : Below B W w') (hb : b < B) (hc : c < B) (hd : d < B) (q : W.cell? ⟨b, 0, none⟩ = some (.int .u32 x.d0) ∧ W.cell? ⟨b, 1, none⟩ = some (.int .u32 x.d1) ∧ W.cell? ⟨b, 2, none⟩ = some (.int .u32 x.d2) ∧ W.cell? ⟨b, 3, none⟩ = some (.int .u32 x.d3) ∧ W.cell? ⟨c, 0, none⟩ = some (.int .u32 y.d0) ∧ W.cell? ⟨c, 1, none⟩ = some (.int .u32 y.d1) ∧ W.cell? ⟨c, 2, none⟩ = some (.int .u32 y.d2) ∧ W.cell? ⟨c, 3, none⟩ = some (.int .u32 y.d3) ∧ W.cell? ⟨d, 0, none⟩ = some (.int .u32 z.d0) ∧ W.cell? ⟨d, 1, none⟩ = some (.int .u32 z.d1) ∧ W.cell? ⟨d, 2, none⟩ = some (.int .u32 z.d2) ∧ W.cell? ⟨d, 3, none⟩ = some (.int .u32 z.d3)) : w'.cell? ⟨b, 0, none⟩ = some (.int .u32 x.d0) ∧ w'.cell? ⟨b, 1, none⟩ = some (.int .u32 x.d1) ∧ w'.cell? ⟨b, 2, none⟩ = some (.int .u32 x.d2) ∧ w'.cell? ⟨b, 3, none⟩ = some (.int .u32 x.d3) ∧ w'.cell? ⟨c, 0, none⟩ = some (.int .u32 y.d0) ∧ w'.cell? ⟨c, 1, none⟩ = some (.int .u32 y.d1) ∧ w'.cell? ⟨c, 2, none⟩ = some (.int .u32 y.d2) ∧ w'.cell? ⟨c, 3, none⟩ = some (.int .u32 y.d3) ∧ w'.cell? ⟨d, 0, none⟩ = some (.int .u32 z.d0) ∧ w'.cell? ⟨d, 1, none⟩ = some (.int .u32 z.d1) ∧ w'.cell? ⟨d, 2, none⟩ = some (.int .u32 z.d2) ∧ w'.cell? ⟨d, 3, none⟩ = some (.int .u32 z.d3) := by
  obtain ⟨q0, q1, q2, q3, q4, q5, q6, q7, q8, q9, q10, q11⟩ := q
  exact ⟨by rw [h.cell (p := ⟨_, _, none⟩) hb]; exact q0, by rw [h.cell (p := ⟨_, _, none⟩) hb]; exact q1, by rw [h.cell (p := ⟨_, _, none⟩) hb]; exact q2, by rw [h.cell (p := ⟨_, _, none⟩) hb]; exact q3, by rw [h.cell (p := ⟨_, _, none⟩) hc]; exact q4, by rw [h.cell (p := ⟨_, _, none⟩) hc]; exact q5, by rw [h.cell (p := ⟨_, _, none⟩) hc]; exact q6, by rw [h.cell (p := ⟨_, _, none⟩) hc]; exact q7, by rw [h.cell (p := ⟨_, _, none⟩) hd]; exact q8, by rw [h.cell (p := ⟨_, _, none⟩) hd]; exact q9, by rw [h.cell (p := ⟨_, _, none⟩) hd]; exact q10, by rw [h.cell (p := ⟨_, _, none⟩) hd]; exact q11⟩
theorem keep28 {B bx by' gt gs ga gb i k : Nat} {W w' : World} {x y si tk : D4} {nai nbi nak nbk : Nat} (h : Below B W w') (hbx : bx < B) (hby : by' < B) (hgt : gt < B) (hgs : gs < B) (hga : ga < B) (hgb : gb < B) (f : W.cell? ⟨bx, 0, none⟩ = some (.int .u32 x.d0) ∧ W.cell? ⟨bx, 1, none⟩ = some (.int .u32 x.d1) ∧ W.cell? ⟨bx, 2, none⟩ = some (.int .u32 x.d2) ∧ W.cell? ⟨bx, 3, none⟩ = some (.int .u32 x.d3) ∧ W.cell? ⟨gt, i * 4, none⟩ = some (.int .u32 x.d0) ∧ W.cell? ⟨gt, i * 4 + 1, none⟩ = some (.int .u32 x.d1) ∧ W.cell? ⟨gt, i * 4 + 2, none⟩ = some (.int .u32 x.d2) ∧ W.cell? ⟨gt, i * 4 + 3, none⟩ = some (.int .u32 x.d3) ∧ W.cell? ⟨by', 0, none⟩ = some (.int .u32 y.d0) ∧ W.cell? ⟨by', 1, none⟩ = some (.int .u32 y.d1) ∧ W.cell? ⟨by', 2, none⟩ = some (.int .u32 y.d2) ∧ W.cell? ⟨by', 3, none⟩ = some (.int .u32 y.d3) ∧ W.cell? ⟨gs, k * 4, none⟩ = some (.int .u32 y.d0) ∧ W.cell? ⟨gs, k * 4 + 1, none⟩ = some (.int .u32 y.d1) ∧ W.cell? ⟨gs, k * 4 + 2, none⟩ = some (.int .u32 y.d2) ∧ W.cell? ⟨gs, k * 4 + 3, none⟩ = some (.int .u32 y.d3) ∧ W.cell? ⟨gb, i, none⟩ = some (.int .i64 (nbi : Int)) ∧ W.cell? ⟨ga, i, none⟩ = some (.int .i64 (nai : Int)) ∧ W.cell? ⟨ga, k, none⟩ = some (.int .i64 (nak : Int)) ∧ W.cell? ⟨gb, k, none⟩ = some (.int .i64 (nbk : Int)) ∧ W.cell? ⟨gs, i * 4, none⟩ = some (.int .u32 si.d0) ∧ W.cell? ⟨gs, i * 4 + 1, none⟩ = some (.int .u32 si.d1) ∧ W.cell? ⟨gs, i * 4 + 2, none⟩ = some (.int .u32 si.d2) ∧ W.cell? ⟨gs, i * 4 + 3, none⟩ = some (.int .u32 si.d3) ∧ W.cell? ⟨gt, k * 4, none⟩ = some (.int .u32 tk.d0) ∧ W.cell? ⟨gt, k * 4 + 1, none⟩ = some (.int .u32 tk.d1) ∧ W.cell? ⟨gt, k * 4 + 2, none⟩ = some (.int .u32 tk.d2) ∧ W.cell? ⟨gt, k * 4 + 3, none⟩ = some (.int .u32 tk.d3)) : w'.cell? ⟨bx, 0, none⟩ = some (.int .u32 x.d0) ∧ w'.cell? ⟨bx, 1, none⟩ = some (.int .u32 x.d1) ∧ w'.cell? ⟨bx, 2, none⟩ = some (.int .u32 x.d2) ∧ w'.cell? ⟨bx, 3, none⟩ = some (.int .u32 x.d3) ∧ w'.cell? ⟨gt, i * 4, none⟩ = some (.int .u32 x.d0) ∧ w'.cell? ⟨gt, i * 4 + 1, none⟩ = some (.int .u32 x.d1) ∧ w'.cell? ⟨gt, i * 4 + 2, none⟩ = some (.int .u32 x.d2) ∧ w'.cell? ⟨gt, i * 4 + 3, none⟩ = some (.int .u32 x.d3) ∧ w'.cell? ⟨by', 0, none⟩ = some (.int .u32 y.d0) ∧ w'.cell? ⟨by', 1, none⟩ = some (.int .u32 y.d1) ∧ w'.cell? ⟨by', 2, none⟩ = some (.int .u32 y.d2) ∧ w'.cell? ⟨by', 3, none⟩ = some (.int .u32 y.d3) ∧ w'.cell? ⟨gs, k * 4, none⟩ = some (.int .u32 y.d0) ∧ w'.cell? ⟨gs, k * 4 + 1, none⟩ = some (.int .u32 y.d1) ∧ w'.cell? ⟨gs, k * 4 + 2, none⟩ = some (.int .u32 y.d2) ∧ w'.cell? ⟨gs, k * 4 + 3, none⟩ = some (.int .u32 y.d3) ∧ w'.cell? ⟨gb, i, none⟩ = some (.int .i64 (nbi : Int)) ∧ w'.cell? ⟨ga, i, none⟩ = some (.int .i64 (nai : Int)) ∧ w'.cell? ⟨ga, k, none⟩ = some (.int .i64 (nak : Int)) ∧ w'.cell? ⟨gb, k, none⟩ = some (.int .i64 (nbk : Int)) ∧ w'.cell? ⟨gs, i * 4, none⟩ = some (.int .u32 si.d0) ∧ w'.cell? ⟨gs, i * 4 + 1, none⟩ = some (.int .u32 si.d1) ∧ w'.cell? ⟨gs, i * 4 + 2, none⟩ = some (.int .u32 si.d2) ∧ w'.cell? ⟨gs, i * 4 + 3, none⟩ = some (.int .u32 si.d3) ∧ w'.cell? ⟨gt, k * 4, none⟩ = some (.int .u32 tk.d0) ∧ w'.cell? ⟨gt, k * 4 + 1, none⟩ = some (.int .u32 tk.d1) ∧ w'.cell? ⟨gt, k * 4 + 2, none⟩ = some (.int .u32 tk.d2) ∧ w'.cell? ⟨gt, k * 4 + 3, none⟩ = some (.int .u32 tk.d3) := by
  obtain ⟨f0, f1, f2, f3, f4, f5, f6, f7, f8, f9, f10, f11, f12, f13, f14, f15, f16, f17, f18, f19, f20, f21, f22, f23, f24, f25, f26, f27⟩ := f
  exact ⟨by rw [h.cell (p := ⟨_, _, none⟩) hbx]; exact f0, by rw [h.cell (p := ⟨_, _, none⟩) hbx]; exact f1, by rw [h.cell (p := ⟨_, _, none⟩) hbx]; exact f2, by rw [h.cell (p := ⟨_, _, none⟩) hbx]; exact f3, by rw [h.cell (p := ⟨_, _, none⟩) hgt]; exact f4, by rw [h.cell (p := ⟨_, _, none⟩) hgt]; exact f5, by rw [h.cell (p := ⟨_, _, none⟩) hgt]; exact f6, by rw [h.cell (p := ⟨_, _, none⟩) hgt]; exact f7, by rw [h.cell (p := ⟨_, _, none⟩) hby]; exact f8, by rw [h.cell (p := ⟨_, _, none⟩) hby]; exact f9, by rw [h.cell (p := ⟨_, _, none⟩) hby]; exact f10, by rw [h.cell (p := ⟨_, _, none⟩) hby]; exact f11, by rw [h.cell (p := ⟨_, _, none⟩) hgs]; exact f12, by rw [h.cell (p := ⟨_, _, none⟩) hgs]; exact f13, by rw [h.cell (p := ⟨_, _, none⟩) hgs]; exact f14, by rw [h.cell (p := ⟨_, _, none⟩) hgs]; exact f15, by rw [h.cell (p := ⟨_, _, none⟩) hgb]; exact f16, by rw [h.cell (p := ⟨_, _, none⟩) hga]; exact f17, by rw [h.cell (p := ⟨_, _, none⟩) hga]; exact f18, by rw [h.cell (p := ⟨_, _, none⟩) hgb]; exact f19, by rw [h.cell (p := ⟨_, _, none⟩) hgs]; exact f20, by rw [h.cell (p := ⟨_, _, none⟩) hgs]; exact f21, by rw [h.cell (p := ⟨_, _, none⟩) hgs]; exact f22, by rw [h.cell (p := ⟨_, _, none⟩) hgs]; exact f23, by rw [h.cell (p := ⟨_, _, none⟩) hgt]; exact f24, by rw [h.cell (p := ⟨_, _, none⟩) hgt]; exact f25, by rw [h.cell (p := ⟨_, _, none⟩) hgt]; exact f26, by rw [h.cell (p := ⟨_, _, none⟩) hgt]; exact f27⟩
theorem start48 (x y z : D4) (w w0 : World) (h : ((w.alloc (.cells #[.int .u32 x.d0, .int .u32 x.d1, .int .u32 x.d2, .int .u32 x.d3] 24)).alloc (.cells #[.int .u32 y.d0, .int .u32 y.d1, .int .u32 y.d2, .int .u32 y.d3] 24)).alloc (.cells #[.int .u32 z.d0, .int .u32 z.d1, .int .u32 z.d2, .int .u32 z.d3] 24) = w0) :
    Arr .u32 24 w.heap.size x.toL w0 ∧ Arr .u32 24 (w.heap.size + 1) y.toL w0 ∧ Arr .u32 24 (w.heap.size + 1 + 1) z.toL w0 ∧ Below w.heap.size w w0 := by
  subst h
  obtain ⟨w1, h1⟩ : ∃ w1, (w.alloc (.cells #[.int .u32 x.d0, .int .u32 x.d1, .int .u32 x.d2, .int .u32 x.d3] 24)).alloc (.cells #[.int .u32 y.d0, .int .u32 y.d1, .int .u32 y.d2, .int .u32 y.d3] 24) = w1 := ⟨_, rfl⟩
  obtain ⟨hX, hY, hB⟩ := start47 x y w w1 h1
  have a1 : w1.heap.size = w.heap.size + 1 + 1 := by rw [← h1]; simp
  rw [h1]
  refine ⟨hX.al _, hY.al _, ?_, hB.alloc (by omega) _⟩
  rw [← a1]
  exact heap_alloc_new w1 _
set_option maxHeartbeats 1000000 in
set_option maxRecDepth 100000 in
theorem gives_same (seed msg : D4) (w : World) (hT : TurnsOk w) : Calls Tryd.prog 8 #[.agg #[.int .u32 seed.d0, .int .u32 seed.d1, .int .u32 seed.d2, .int .u32 seed.d3], .agg #[.int .u32 msg.d0, .int .u32 msg.d1, .int .u32 msg.d2, .int .u32 msg.d3], .agg #[.int .u32 msg.d0, .int .u32 msg.d1, .int .u32 msg.d2, .int .u32 msg.d3]] w fun e w' => e = .returned (.bool true) ∧ Below w.heap.size w w' := by
  obtain ⟨w0, hw0⟩ : ∃ w0, ((w.alloc (.cells #[.int .u32 seed.d0, .int .u32 seed.d1, .int .u32 seed.d2, .int .u32 seed.d3] 24)).alloc (.cells #[.int .u32 msg.d0, .int .u32 msg.d1, .int .u32 msg.d2, .int .u32 msg.d3] 24)).alloc (.cells #[.int .u32 msg.d0, .int .u32 msg.d1, .int .u32 msg.d2, .int .u32 msg.d3] 24) = w0 := ⟨_, rfl⟩
  obtain ⟨hA0, hM0, hO0, hB0⟩ := start48 seed msg msg w w0 hw0
  obtain ⟨c0, c1, c2, c3⟩ := Arr.c4 hM0
  obtain ⟨d0, d1, d2, d3⟩ := Arr.c4 hO0
  have hE := eqD_yes msg
  go_enter Tryd.func8, Tryd.ntmps8
  go_wp2_with fail
  clear hw0
  refine (awake5_any w0 (hT.below hB0)).mono ?_
  rintro e w1 ⟨rfl, hB⟩
  go_wp2_with fail
  go_ret
  exact ⟨rfl, hB0.trans (hB.mono hB0.size)⟩
theorem rdS_lt {w : World} {g : Nat} {l : List D4} (h : RdS w (some ⟨g, 0, none⟩) l) (hl : 35 = l.length) : g < w.heap.size := by
  obtain ⟨b, o, e, h1, _⟩ := h (by intro e; subst e; simp at hl)
  cases e
  exact h1
theorem rdS_at {w : World} {g : Nat} {l : List D4} (h : RdS w (some ⟨g, 0, none⟩) l) {i : Nat} (hi : i < l.length) : dgAt w g (i * 4) (l.getD i zeroD) := by
  obtain ⟨b, o, e, _, h2⟩ := h (by intro e; subst e; simp at hi)
  cases e
  have := h2 i hi
  rw [Nat.zero_add] at this
  exact this
set_option maxHeartbeats 8000000 in
set_option maxRecDepth 100000 in
theorem gives_walk (seed msg other : D4) (w : World) (hso : seed.ok) (hmo : msg.ok) (hoo : other.ok) (hT : TurnsOk w) (hne : msg ≠ other) : Calls Tryd.prog 8 #[.agg #[.int .u32 seed.d0, .int .u32 seed.d1, .int .u32 seed.d2, .int .u32 seed.d3], .agg #[.int .u32 msg.d0, .int .u32 msg.d1, .int .u32 msg.d2, .int .u32 msg.d3], .agg #[.int .u32 other.d0, .int .u32 other.d1, .int .u32 other.d2, .int .u32 other.d3]] w fun e w' => e = .returned (.bool true) ∧ Below w.heap.size w w' := by
  have hE0 := eqD_run msg other
  have hsf : sameD msg other = false := by
    cases q : sameD msg other
    · rfl
    · exact absurd ((sameD_iff _ _).mp q) hne
  rw [hsf] at hE0
  obtain ⟨i, hOi, hi, hli, hwi⟩ := gives_some seed msg other hmo hoo hne
  obtain ⟨k, hOk, hk, hlk, hwk⟩ := gives_some seed other msg hoo hmo (fun e => hne e.symm)
  obtain ⟨S, hS⟩ : ∃ l, signL seed msg = l := ⟨_, rfl⟩
  obtain ⟨U, hU⟩ : ∃ l, signL seed other = l := ⟨_, rfl⟩
  have hSl : 35 = S.length := by rw [← hS, signL_len]
  have hUl : 35 = U.length := by rw [← hU, signL_len]
  have hSo : allD4 S := by rw [← hS]; exact signL_ok msg hso
  have hUo : allD4 U := by rw [← hU]; exact signL_ok other hso
  rw [hS, hU] at hOi hOk hwi hwk
  obtain ⟨x, hx⟩ : ∃ x, U.getD i zeroD = x := ⟨_, rfl⟩
  obtain ⟨y, hy⟩ : ∃ y, S.getD k zeroD = y := ⟨_, rfl⟩
  obtain ⟨si, hsi⟩ : ∃ y, S.getD i zeroD = y := ⟨_, rfl⟩
  obtain ⟨tk, htk⟩ : ∃ y, U.getD k zeroD = y := ⟨_, rfl⟩
  have hxo : x.ok := by rw [← hx]; exact getD_ok hUo i
  have hyo : y.ok := by rw [← hy]; exact getD_ok hSo k
  rw [hx, hsi] at hwi
  rw [hy, htk] at hwk
  obtain ⟨Na, hNa⟩ : ∃ N, numL msg = N := ⟨_, rfl⟩
  obtain ⟨Nb, hNb⟩ : ∃ N, numL other = N := ⟨_, rfl⟩
  have hal : Na.length = 35 := by rw [← hNa, numL_len]
  have hbl : Nb.length = 35 := by rw [← hNb, numL_len]
  obtain ⟨nai, hnai⟩ : ∃ n, num msg i = n := ⟨_, rfl⟩
  obtain ⟨nbi, hnbi⟩ : ∃ n, num other i = n := ⟨_, rfl⟩
  obtain ⟨nak, hnak⟩ : ∃ n, num msg k = n := ⟨_, rfl⟩
  obtain ⟨nbk, hnbk⟩ : ∃ n, num other k = n := ⟨_, rfl⟩
  have l1 : nai ≤ 15 := by rw [← hnai]; exact num_le _ _
  have l2 : nbk ≤ 15 := by rw [← hnbk]; exact num_le _ _
  have g1 : Na.getD i 0 = nai := by rw [← hnai, num, hNa]
  have g2 : Nb.getD i 0 = nbi := by rw [← hnbi, num, hNb]
  have g3 : Na.getD k 0 = nak := by rw [← hnak, num, hNa]
  have g4 : Nb.getD k 0 = nbk := by rw [← hnbk, num, hNb]
  rw [hnai, hnbi] at hli hwi
  rw [hnak, hnbk] at hlk hwk
  have HOi := Lib.hid hOi
  have HOk := Lib.hid hOk
  have HWi := Lib.hid hwi
  have HWk := Lib.hid hwk
  have HS := Lib.hid hS
  have HU := Lib.hid hU
  have HSL := Lib.hid hSl
  have HUL := Lib.hid hUl
  have HSO := Lib.hid hSo
  have HUO := Lib.hid hUo
  have HX := Lib.hid hx
  have HY := Lib.hid hy
  have HSI := Lib.hid hsi
  have HTK := Lib.hid htk
  have HNa := Lib.hid hNa
  have HNb := Lib.hid hNb
  have HG := Lib.hid (And.intro g1 (And.intro g2 (And.intro g3 g4)))
  have HSE := Lib.hid (show S.length ≤ 35 by omega)
  have HUE := Lib.hid (show U.length ≤ 35 by omega)
  have h35 : 35 ≤ maxLen := by unfold maxLen; omega
  clear hOi hOk hwi hwk hS hU hSl hUl hSo hUo hx hy hsi htk hNa hNb g1 g2 g3 g4 hnai hnbi hnak hnbk hsf hne
  obtain ⟨w0, hw0⟩ : ∃ w0, ((w.alloc (.cells #[.int .u32 seed.d0, .int .u32 seed.d1, .int .u32 seed.d2, .int .u32 seed.d3] 24)).alloc (.cells #[.int .u32 msg.d0, .int .u32 msg.d1, .int .u32 msg.d2, .int .u32 msg.d3] 24)).alloc (.cells #[.int .u32 other.d0, .int .u32 other.d1, .int .u32 other.d2, .int .u32 other.d3] 24) = w0 := ⟨_, rfl⟩
  obtain ⟨hA0, hM0, hO0, hB0⟩ := start48 seed msg other w w0 hw0
  have hTd : TurnsOk w0.drew := hT.below hB0.drew
  have hb1 : w.heap.size < w0.drew.heap.size := hA0.lt
  have hb2 : w.heap.size + 1 < w0.drew.heap.size := hM0.lt
  have hb3 : w.heap.size + 1 + 1 < w0.drew.heap.size := hO0.lt
  have hs4 := Arr.c4 (show Arr .u32 24 w.heap.size seed.toL w0.drew from hA0)
  have hm4 := Arr.c4 (show Arr .u32 24 (w.heap.size + 1) msg.toL w0.drew from hM0)
  have ho4 := Arr.c4 (show Arr .u32 24 (w.heap.size + 1 + 1) other.toL w0.drew from hO0)
  have HS0 : Hid (w0.drew.cell? ⟨w.heap.size, 0, none⟩ = some (.int .u32 seed.d0) ∧ w0.drew.cell? ⟨w.heap.size, 1, none⟩ = some (.int .u32 seed.d1) ∧ w0.drew.cell? ⟨w.heap.size, 2, none⟩ = some (.int .u32 seed.d2) ∧ w0.drew.cell? ⟨w.heap.size, 3, none⟩ = some (.int .u32 seed.d3) ∧ w0.drew.cell? ⟨w.heap.size + 1, 0, none⟩ = some (.int .u32 msg.d0) ∧ w0.drew.cell? ⟨w.heap.size + 1, 1, none⟩ = some (.int .u32 msg.d1) ∧ w0.drew.cell? ⟨w.heap.size + 1, 2, none⟩ = some (.int .u32 msg.d2) ∧ w0.drew.cell? ⟨w.heap.size + 1, 3, none⟩ = some (.int .u32 msg.d3) ∧ w0.drew.cell? ⟨w.heap.size + 1 + 1, 0, none⟩ = some (.int .u32 other.d0) ∧ w0.drew.cell? ⟨w.heap.size + 1 + 1, 1, none⟩ = some (.int .u32 other.d1) ∧ w0.drew.cell? ⟨w.heap.size + 1 + 1, 2, none⟩ = some (.int .u32 other.d2) ∧ w0.drew.cell? ⟨w.heap.size + 1 + 1, 3, none⟩ = some (.int .u32 other.d3)) := ⟨hs4.1, hs4.2.1, hs4.2.2.1, hs4.2.2.2, hm4.1, hm4.2.1, hm4.2.2.1, hm4.2.2.2, ho4.1, ho4.2.1, ho4.2.2.1, ho4.2.2.2⟩
  have hCur : Below w0.drew.heap.size w0.drew w0.drew := Below.refl _ _
  obtain ⟨c0, c1, c2, c3⟩ := Arr.c4 hM0
  obtain ⟨d0, d1, d2, d3⟩ := Arr.c4 hO0
  clear hT hA0 hM0 hO0 hs4 hm4 ho4
  go_enter Tryd.func8, Tryd.ntmps8
  go_wp2_with fail
  clear hw0 c0 c1 c2 c3 d0 d1 d2 d3 hE0
  go_region_held3 (fun w' => w'.cell? ⟨w.heap.size, 0, none⟩ = some (.int .u32 seed.d0) ∧ w'.cell? ⟨w.heap.size, 1, none⟩ = some (.int .u32 seed.d1) ∧ w'.cell? ⟨w.heap.size, 2, none⟩ = some (.int .u32 seed.d2) ∧ w'.cell? ⟨w.heap.size, 3, none⟩ = some (.int .u32 seed.d3) ∧ w'.cell? ⟨w.heap.size + 1, 0, none⟩ = some (.int .u32 msg.d0) ∧ w'.cell? ⟨w.heap.size + 1, 1, none⟩ = some (.int .u32 msg.d1) ∧ w'.cell? ⟨w.heap.size + 1, 2, none⟩ = some (.int .u32 msg.d2) ∧ w'.cell? ⟨w.heap.size + 1, 3, none⟩ = some (.int .u32 msg.d3) ∧ w'.cell? ⟨w.heap.size + 1 + 1, 0, none⟩ = some (.int .u32 other.d0) ∧ w'.cell? ⟨w.heap.size + 1 + 1, 1, none⟩ = some (.int .u32 other.d1) ∧ w'.cell? ⟨w.heap.size + 1 + 1, 2, none⟩ = some (.int .u32 other.d2) ∧ w'.cell? ⟨w.heap.size + 1 + 1, 3, none⟩ = some (.int .u32 other.d3))
    (first | exact keepB3 hCur hb1 hb2 hb3 HS0.out)
    (first
      | (go_at_call 17; (with_reducible refine (csign_val seed msg S _ hso hmo (hTd.below hCur) HS.out).mono ?_); rintro e wa ⟨gs, rfl, hgs, hRs, hP⟩; (try have hRt := hRt.on hP); have hCur : Below w0.drew.heap.size w0.drew wa := hCur.trans (hP.mono hCur.size))
      | (go_at_call 17; (with_reducible refine (csign_val seed other U _ hso hoo (hTd.below hCur) HU.out).mono ?_); rintro e wb ⟨gt, rfl, hgt, hRt, hP⟩; (try have hRs := hRs.on hP); have hCur : Below w0.drew.heap.size w0.drew wb := hCur.trans (hP.mono hCur.size)))
  have hBb := hB0.drew.trans (hCur.mono hB0.size)
  have hTb : TurnsOk wb := hTd.below hCur
  have hbox := keepB3 hCur hb1 hb2 hb3 HS0.out
  obtain ⟨-, -, -, -, m0, m1, m2, m3, o0, o1, o2, o3⟩ := hbox
  have hMb : wb.cell? ⟨w.heap.size + 1, 0, none⟩ = some (.int .u32 msg.d0) ∧ wb.cell? ⟨w.heap.size + 1, 1, none⟩ = some (.int .u32 msg.d1) ∧ wb.cell? ⟨w.heap.size + 1, 2, none⟩ = some (.int .u32 msg.d2) ∧ wb.cell? ⟨w.heap.size + 1, 3, none⟩ = some (.int .u32 msg.d3) ∧ wb.cell? ⟨w.heap.size + 1 + 1, 0, none⟩ = some (.int .u32 other.d0) ∧ wb.cell? ⟨w.heap.size + 1 + 1, 1, none⟩ = some (.int .u32 other.d1) ∧ wb.cell? ⟨w.heap.size + 1 + 1, 2, none⟩ = some (.int .u32 other.d2) ∧ wb.cell? ⟨w.heap.size + 1 + 1, 3, none⟩ = some (.int .u32 other.d3) := ⟨m0, m1, m2, m3, o0, o1, o2, o3⟩
  have HMb := Lib.hid hMb
  have hb2' : w.heap.size + 1 < wb.heap.size := Nat.lt_of_lt_of_le hb2 hCur.size
  have hb3' : w.heap.size + 1 + 1 < wb.heap.size := Nat.lt_of_lt_of_le hb3 hCur.size
  clear hMb HS0 hTd hb1 hb2 hb3 hP
  go_wp2_with fail
  refine (cahead_any msg other S U (some ⟨gs, 0, none⟩) (some ⟨gt, 0, none⟩) 35 35 35 35 wb hmo hoo HSO.out HUO.out HSL.out HUL.out hRs hRt HSE.out h35 HUE.out h35 hTb (some i) HOi.out (i : Int) rfl x HX.out true rfl).mono ?_
  rintro e wf ⟨rfl, hD⟩
  obtain ⟨wg, hwg⟩ : ∃ wg, wf.alloc (.cells #[.int .u32 x.d0, .int .u32 x.d1, .int .u32 x.d2, .int .u32 x.d3] 24) = wg := ⟨_, rfl⟩
  have hXg : Arr .u32 24 wf.heap.size x.toL wg := by rw [← hwg]; exact heap_alloc_new wf _
  have hD2 : Below wf.heap.size wf wg := by rw [← hwg]; exact (Below.refl _ _).alloc (Nat.le_refl _) _
  have hDg := hD.trans (hD2.mono hD.size)
  have hRsg := hRs.on hDg
  have hRtg := hRt.on hDg
  have hTg := hTb.below hDg
  clear m0 m1 m2 m3 o0 o1 o2 o3 hD hD2 hRs hRt hTb
  obtain ⟨m0, m1, m2, m3, o0, o1, o2, o3⟩ := keepB2 hDg hb2' hb3' HMb.out
  go_wp2_with fail
  clear hwg
  refine (cahead_any other msg U S (some ⟨gt, 0, none⟩) (some ⟨gs, 0, none⟩) 35 35 35 35 wg hoo hmo HUO.out HSO.out HUL.out HSL.out hRtg hRsg HUE.out h35 HSE.out h35 hTg (some k) HOk.out (k : Int) rfl y HY.out true rfl).mono ?_
  rintro e wh ⟨rfl, hD⟩
  obtain ⟨wj, hwj⟩ : ∃ wj, wh.alloc (.cells #[.int .u32 y.d0, .int .u32 y.d1, .int .u32 y.d2, .int .u32 y.d3] 24) = wj := ⟨_, rfl⟩
  have hYj : Arr .u32 24 wh.heap.size y.toL wj := by rw [← hwj]; exact heap_alloc_new wh _
  have hD2 : Below wh.heap.size wh wj := by rw [← hwj]; exact (Below.refl _ _).alloc (Nat.le_refl _) _
  have hDj := hD.trans (hD2.mono hD.size)
  have hRsj : RdS wj.drew (some ⟨gs, 0, none⟩) S := hRsg.on hDj.drew
  have hRtj : RdS wj.drew (some ⟨gt, 0, none⟩) U := hRtg.on hDj.drew
  have hTj : TurnsOk wj.drew := hTg.below hDj.drew
  have hXj : Arr .u32 24 wf.heap.size x.toL wj.drew := hXg.on hDj.drew
  have hYd : Arr .u32 24 wh.heap.size y.toL wj.drew := hYj
  have hDbj := hDg.trans (hDj.mono hDg.size)
  have HS1 : Hid (wj.drew.cell? ⟨w.heap.size + 1, 0, none⟩ = some (.int .u32 msg.d0) ∧ wj.drew.cell? ⟨w.heap.size + 1, 1, none⟩ = some (.int .u32 msg.d1) ∧ wj.drew.cell? ⟨w.heap.size + 1, 2, none⟩ = some (.int .u32 msg.d2) ∧ wj.drew.cell? ⟨w.heap.size + 1, 3, none⟩ = some (.int .u32 msg.d3) ∧ wj.drew.cell? ⟨w.heap.size + 1 + 1, 0, none⟩ = some (.int .u32 other.d0) ∧ wj.drew.cell? ⟨w.heap.size + 1 + 1, 1, none⟩ = some (.int .u32 other.d1) ∧ wj.drew.cell? ⟨w.heap.size + 1 + 1, 2, none⟩ = some (.int .u32 other.d2) ∧ wj.drew.cell? ⟨w.heap.size + 1 + 1, 3, none⟩ = some (.int .u32 other.d3)) := Lib.hid (keepB2 hDbj.drew hb2' hb3' HMb.out)
  have hBj := hBb.trans (hDbj.mono hBb.size)
  have hb2j : w.heap.size + 1 < wj.drew.heap.size := Nat.lt_of_lt_of_le hb2' hDbj.size
  have hb3j : w.heap.size + 1 + 1 < wj.drew.heap.size := Nat.lt_of_lt_of_le hb3' hDbj.size
  have hi0 : decide ((i : Int) < 0) = false := by simp
  have hi34 : decide ((34 : Int) < (i : Int)) = false := by simp; omega
  have hk0 : decide ((k : Int) < 0) = false := by simp
  have hk34 : decide ((34 : Int) < (k : Int)) = false := by simp; omega
  clear m0 m1 m2 m3 o0 o1 o2 o3 hD hD2 hRsg hRtg hTg hXg hYj hDg hDj hDbj hBb hCur
  have hCur : Below wj.drew.heap.size wj.drew wj.drew := Below.refl _ _
  go_wp2_with fail
  clear hwj
  go_region_held3 (fun w' => w'.cell? ⟨w.heap.size + 1, 0, none⟩ = some (.int .u32 msg.d0) ∧ w'.cell? ⟨w.heap.size + 1, 1, none⟩ = some (.int .u32 msg.d1) ∧ w'.cell? ⟨w.heap.size + 1, 2, none⟩ = some (.int .u32 msg.d2) ∧ w'.cell? ⟨w.heap.size + 1, 3, none⟩ = some (.int .u32 msg.d3) ∧ w'.cell? ⟨w.heap.size + 1 + 1, 0, none⟩ = some (.int .u32 other.d0) ∧ w'.cell? ⟨w.heap.size + 1 + 1, 1, none⟩ = some (.int .u32 other.d1) ∧ w'.cell? ⟨w.heap.size + 1 + 1, 2, none⟩ = some (.int .u32 other.d2) ∧ w'.cell? ⟨w.heap.size + 1 + 1, 3, none⟩ = some (.int .u32 other.d3))
    (first | exact keepB2 hCur hb2j hb3j HS1.out)
    (first
      | (go_at_call 13; (with_reducible refine (rsteps_val msg Na _ hmo HNa.out).mono ?_); rintro e wk ⟨ga, ca, rfl, hga, hca, hcam, hRa, hP⟩; (try have hRb := hRb.on hP); have hCur : Below wj.drew.heap.size wj.drew wk := hCur.trans (hP.mono hCur.size))
      | (go_at_call 13; (with_reducible refine (rsteps_val other Nb _ hoo HNb.out).mono ?_); rintro e wl ⟨gb, cb, rfl, hgb, hcb, hcbm, hRb, hP⟩; (try have hRa := hRa.on hP); have hCur : Below wj.drew.heap.size wj.drew wl := hCur.trans (hP.mono hCur.size)))
  have hRs2 := hRsj.on hCur
  have hRt2 := hRtj.on hCur
  have hTl : TurnsOk wl.drew := hTj.below hCur.drew
  have hX4 := Arr.c4 (hXj.on hCur)
  have hY4 := Arr.c4 (hYd.on hCur)
  have hxb : wf.heap.size < wl.drew.heap.size := (hXj.on hCur).lt
  have hyb : wh.heap.size < wl.drew.heap.size := (hYd.on hCur).lt
  have hga' : ga < wl.drew.heap.size := hRa.1
  have hgb' : gb < wl.drew.heap.size := hRb.1
  have hgs' : gs < wl.drew.heap.size := rdS_lt hRs2 HSL.out
  have hgt' : gt < wl.drew.heap.size := rdS_lt hRt2 HUL.out
  have q1 := rdS_at hRs2 (i := k) (by have := HSL.out; omega)
  have q2 := rdS_at hRs2 (i := i) (by have := HSL.out; omega)
  have q3 := rdS_at hRt2 (i := i) (by have := HUL.out; omega)
  have q4 := rdS_at hRt2 (i := k) (by have := HUL.out; omega)
  rw [HY.out] at q1
  rw [HSI.out] at q2
  rw [HX.out] at q3
  rw [HTK.out] at q4
  have n1 := hRa.2 i (by omega)
  have n2 := hRb.2 i (by omega)
  have n3 := hRa.2 k (by omega)
  have n4 := hRb.2 k (by omega)
  rw [HG.out.1] at n1
  rw [HG.out.2.1] at n2
  rw [HG.out.2.2.1] at n3
  rw [HG.out.2.2.2] at n4
  have HR : Hid (wl.drew.cell? ⟨wf.heap.size, 0, none⟩ = some (.int .u32 x.d0) ∧ wl.drew.cell? ⟨wf.heap.size, 1, none⟩ = some (.int .u32 x.d1) ∧ wl.drew.cell? ⟨wf.heap.size, 2, none⟩ = some (.int .u32 x.d2) ∧ wl.drew.cell? ⟨wf.heap.size, 3, none⟩ = some (.int .u32 x.d3) ∧ wl.drew.cell? ⟨gt, i * 4, none⟩ = some (.int .u32 x.d0) ∧ wl.drew.cell? ⟨gt, i * 4 + 1, none⟩ = some (.int .u32 x.d1) ∧ wl.drew.cell? ⟨gt, i * 4 + 2, none⟩ = some (.int .u32 x.d2) ∧ wl.drew.cell? ⟨gt, i * 4 + 3, none⟩ = some (.int .u32 x.d3) ∧ wl.drew.cell? ⟨wh.heap.size, 0, none⟩ = some (.int .u32 y.d0) ∧ wl.drew.cell? ⟨wh.heap.size, 1, none⟩ = some (.int .u32 y.d1) ∧ wl.drew.cell? ⟨wh.heap.size, 2, none⟩ = some (.int .u32 y.d2) ∧ wl.drew.cell? ⟨wh.heap.size, 3, none⟩ = some (.int .u32 y.d3) ∧ wl.drew.cell? ⟨gs, k * 4, none⟩ = some (.int .u32 y.d0) ∧ wl.drew.cell? ⟨gs, k * 4 + 1, none⟩ = some (.int .u32 y.d1) ∧ wl.drew.cell? ⟨gs, k * 4 + 2, none⟩ = some (.int .u32 y.d2) ∧ wl.drew.cell? ⟨gs, k * 4 + 3, none⟩ = some (.int .u32 y.d3) ∧ wl.drew.cell? ⟨gb, i, none⟩ = some (.int .i64 (nbi : Int)) ∧ wl.drew.cell? ⟨ga, i, none⟩ = some (.int .i64 (nai : Int)) ∧ wl.drew.cell? ⟨ga, k, none⟩ = some (.int .i64 (nak : Int)) ∧ wl.drew.cell? ⟨gb, k, none⟩ = some (.int .i64 (nbk : Int)) ∧ wl.drew.cell? ⟨gs, i * 4, none⟩ = some (.int .u32 si.d0) ∧ wl.drew.cell? ⟨gs, i * 4 + 1, none⟩ = some (.int .u32 si.d1) ∧ wl.drew.cell? ⟨gs, i * 4 + 2, none⟩ = some (.int .u32 si.d2) ∧ wl.drew.cell? ⟨gs, i * 4 + 3, none⟩ = some (.int .u32 si.d3) ∧ wl.drew.cell? ⟨gt, k * 4, none⟩ = some (.int .u32 tk.d0) ∧ wl.drew.cell? ⟨gt, k * 4 + 1, none⟩ = some (.int .u32 tk.d1) ∧ wl.drew.cell? ⟨gt, k * 4 + 2, none⟩ = some (.int .u32 tk.d2) ∧ wl.drew.cell? ⟨gt, k * 4 + 3, none⟩ = some (.int .u32 tk.d3)) := ⟨hX4.1, hX4.2.1, hX4.2.2.1, hX4.2.2.2, q3.1, q3.2.1, q3.2.2.1, q3.2.2.2, hY4.1, hY4.2.1, hY4.2.2.1, hY4.2.2.2, q1.1, q1.2.1, q1.2.2.1, q1.2.2.2, n2, n1, n3, n4, q2.1, q2.2.1, q2.2.2.1, q2.2.2.2, q4.1, q4.2.1, q4.2.2.1, q4.2.2.2⟩
  have hBl := hBj.drew.trans (hCur.mono hBj.size)
  unfold maxLen at hcam hcbm
  have ui0 : (0 : Int) ≤ (i : Int) := by omega
  have ui1 : (i : Int) < 35 := by omega
  have uk0 : (0 : Int) ≤ (k : Int) := by omega
  have uk1 : (k : Int) < 35 := by omega
  have hdi : decide ((nbi : Int) < (nai : Int)) = true := by simp; omega
  have hdk : decide ((nak : Int) < (nbk : Int)) = true := by simp; omega
  have hw1 : IntKind.i64.wrap ((nai : Int) - (nbi : Int)) = ((nai - nbi : Nat) : Int) := by rw [IntWalk.i64_in _ (by omega)]; omega
  have hw2 : IntKind.i64.wrap ((nbk : Int) - (nak : Int)) = ((nbk - nak : Nat) : Int) := by rw [IntWalk.i64_in _ (by omega)]; omega
  have hE1 := eqD_yes x
  have hE2 := eqD_yes y
  have hE3 := eqD_yes si
  have hE4 := eqD_yes tk
  clear hX4 hY4 q1 q2 q3 q4 n1 n2 n3 n4 hRs2 hRt2 hXj hYd hRa hRb hRsj hRtj hTj HS1 HMb hb2j hb3j hCur hP hBj hi0 hi34 hk0 hk34 hgs hgt hga hgb
  have hCur : Below wl.drew.heap.size wl.drew wl.drew := Below.refl _ _
  go_wp2_with fail
  simp only [List.append]
  go_region_held3 (fun w' => w'.cell? ⟨wf.heap.size, 0, none⟩ = some (.int .u32 x.d0) ∧ w'.cell? ⟨wf.heap.size, 1, none⟩ = some (.int .u32 x.d1) ∧ w'.cell? ⟨wf.heap.size, 2, none⟩ = some (.int .u32 x.d2) ∧ w'.cell? ⟨wf.heap.size, 3, none⟩ = some (.int .u32 x.d3) ∧ w'.cell? ⟨gt, i * 4, none⟩ = some (.int .u32 x.d0) ∧ w'.cell? ⟨gt, i * 4 + 1, none⟩ = some (.int .u32 x.d1) ∧ w'.cell? ⟨gt, i * 4 + 2, none⟩ = some (.int .u32 x.d2) ∧ w'.cell? ⟨gt, i * 4 + 3, none⟩ = some (.int .u32 x.d3) ∧ w'.cell? ⟨wh.heap.size, 0, none⟩ = some (.int .u32 y.d0) ∧ w'.cell? ⟨wh.heap.size, 1, none⟩ = some (.int .u32 y.d1) ∧ w'.cell? ⟨wh.heap.size, 2, none⟩ = some (.int .u32 y.d2) ∧ w'.cell? ⟨wh.heap.size, 3, none⟩ = some (.int .u32 y.d3) ∧ w'.cell? ⟨gs, k * 4, none⟩ = some (.int .u32 y.d0) ∧ w'.cell? ⟨gs, k * 4 + 1, none⟩ = some (.int .u32 y.d1) ∧ w'.cell? ⟨gs, k * 4 + 2, none⟩ = some (.int .u32 y.d2) ∧ w'.cell? ⟨gs, k * 4 + 3, none⟩ = some (.int .u32 y.d3) ∧ w'.cell? ⟨gb, i, none⟩ = some (.int .i64 (nbi : Int)) ∧ w'.cell? ⟨ga, i, none⟩ = some (.int .i64 (nai : Int)) ∧ w'.cell? ⟨ga, k, none⟩ = some (.int .i64 (nak : Int)) ∧ w'.cell? ⟨gb, k, none⟩ = some (.int .i64 (nbk : Int)) ∧ w'.cell? ⟨gs, i * 4, none⟩ = some (.int .u32 si.d0) ∧ w'.cell? ⟨gs, i * 4 + 1, none⟩ = some (.int .u32 si.d1) ∧ w'.cell? ⟨gs, i * 4 + 2, none⟩ = some (.int .u32 si.d2) ∧ w'.cell? ⟨gs, i * 4 + 3, none⟩ = some (.int .u32 si.d3) ∧ w'.cell? ⟨gt, k * 4, none⟩ = some (.int .u32 tk.d0) ∧ w'.cell? ⟨gt, k * 4 + 1, none⟩ = some (.int .u32 tk.d1) ∧ w'.cell? ⟨gt, k * 4 + 2, none⟩ = some (.int .u32 tk.d2) ∧ w'.cell? ⟨gt, k * 4 + 3, none⟩ = some (.int .u32 tk.d3))
    (first | exact keep28 hCur hxb hyb hgt' hgs' hga' hgb' HR.out)
    (first
      | (go_at_call 10; (with_reducible refine (awake5_any _ hTl).mono ?_); rintro e wm ⟨rfl, hP⟩; have hCur : Below wl.drew.heap.size wl.drew wm := hCur.trans (hP.mono hCur.size))
      | (go_at_call 24; (with_reducible refine (rwalk_any (nai - nbi) _ x si _ hxo (by omega) (by omega) HWi.out).mono ?_); rintro e wn ⟨rfl, hP⟩; have hCur : Below wl.drew.heap.size wl.drew wn := hCur.trans (hP.mono hCur.size))
      | (go_at_call 24; (with_reducible refine (rwalk_any (nbk - nak) _ y tk _ hyo (by omega) (by omega) HWk.out).mono ?_); rintro e wo ⟨rfl, hP⟩; have hCur : Below wl.drew.heap.size wl.drew wo := hCur.trans (hP.mono hCur.size)))
  all_goals
    go_wp2_with fail
    go_ret
    exact ⟨rfl, hBl.drew.trans (hCur.mono hBl.size)⟩

end Go.Proofs.YtkgkmpelclmllaaDoor
