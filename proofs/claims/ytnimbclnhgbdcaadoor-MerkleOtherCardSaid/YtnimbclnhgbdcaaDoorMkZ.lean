/-
  Two unlike pairs with one digest: the code's clash (written by gen_clash.py).
-/
import Derived.Test.YtnimbclnhgbdcaaDoorMkK
import Derived.Test.YtnimbclnhgbdcaaDoorMkQ
namespace Go.Proofs.YtnimbclnhgbdcaaDoor
open Go.RowKit

theorem start88 (w w0 : World) (h : (w.alloc (.cells #[.int .u32 0, .int .u32 0, .int .u32 0, .int .u32 0, .int .u32 0, .int .u32 0, .int .u32 0, .int .u32 0] 41)).alloc (.cells #[.int .u32 0, .int .u32 0, .int .u32 0, .int .u32 0, .int .u32 0, .int .u32 0, .int .u32 0, .int .u32 0] 41) = w0) : Arr .u32 41 w.heap.size nilS.toL w0 ∧ Arr .u32 41 (w.heap.size + 1) nilS.toL w0 ∧ Below w.heap.size w w0 ∧ w0.heap.size = w.heap.size + 1 + 1 := by
  subst h
  obtain ⟨w1, h1⟩ : ∃ w1, w.alloc (.cells #[.int .u32 0, .int .u32 0, .int .u32 0, .int .u32 0, .int .u32 0, .int .u32 0, .int .u32 0, .int .u32 0] 41) = w1 := ⟨_, rfl⟩
  obtain ⟨hA, hB⟩ := start8t w w1 h1
  have hs : w1.heap.size = w.heap.size + 1 := by rw [← h1]; simp
  rw [h1]
  refine ⟨hA.al _, ?_, hB.alloc (by omega) _, by simp [hs]⟩
  rw [← hs]
  exact heap_alloc_new w1 _
/-- Both results are laid. -/
theorem fin88 {b : Nat} {w' : World} {N M : List Int} {x z u v : D4} (h1 : Arr .u32 41 b N w') (hn : N.length = 8) (h2 : Arr .u32 41 (b + 1) M w') (hm : M.length = 8) :
    Arr .u32 41 b (both8 x z).toL ((((((((((((((((w'.setCell ⟨b, 0, none⟩ (.int .u32 x.d0)).setCell ⟨b, 1, none⟩ (.int .u32 x.d1)).setCell ⟨b, 2, none⟩ (.int .u32 x.d2)).setCell ⟨b, 3, none⟩ (.int .u32 x.d3)).setCell ⟨b, 4, none⟩ (.int .u32 z.d0)).setCell ⟨b, 5, none⟩ (.int .u32 z.d1)).setCell ⟨b, 6, none⟩ (.int .u32 z.d2)).setCell ⟨b, 7, none⟩ (.int .u32 z.d3)).setCell ⟨b + 1, 0, none⟩ (.int .u32 u.d0)).setCell ⟨b + 1, 1, none⟩ (.int .u32 u.d1)).setCell ⟨b + 1, 2, none⟩ (.int .u32 u.d2)).setCell ⟨b + 1, 3, none⟩ (.int .u32 u.d3)).setCell ⟨b + 1, 4, none⟩ (.int .u32 v.d0)).setCell ⟨b + 1, 5, none⟩ (.int .u32 v.d1)).setCell ⟨b + 1, 6, none⟩ (.int .u32 v.d2)).setCell ⟨b + 1, 7, none⟩ (.int .u32 v.d3)) ∧ Arr .u32 41 (b + 1) (both8 u v).toL ((((((((((((((((w'.setCell ⟨b, 0, none⟩ (.int .u32 x.d0)).setCell ⟨b, 1, none⟩ (.int .u32 x.d1)).setCell ⟨b, 2, none⟩ (.int .u32 x.d2)).setCell ⟨b, 3, none⟩ (.int .u32 x.d3)).setCell ⟨b, 4, none⟩ (.int .u32 z.d0)).setCell ⟨b, 5, none⟩ (.int .u32 z.d1)).setCell ⟨b, 6, none⟩ (.int .u32 z.d2)).setCell ⟨b, 7, none⟩ (.int .u32 z.d3)).setCell ⟨b + 1, 0, none⟩ (.int .u32 u.d0)).setCell ⟨b + 1, 1, none⟩ (.int .u32 u.d1)).setCell ⟨b + 1, 2, none⟩ (.int .u32 u.d2)).setCell ⟨b + 1, 3, none⟩ (.int .u32 u.d3)).setCell ⟨b + 1, 4, none⟩ (.int .u32 v.d0)).setCell ⟨b + 1, 5, none⟩ (.int .u32 v.d1)).setCell ⟨b + 1, 6, none⟩ (.int .u32 v.d2)).setCell ⟨b + 1, 7, none⟩ (.int .u32 v.d3)) := by
  have p1 := putB8 (x := x) (z := z) h1 hn
  have p2 := farB8 h2 (Nat.succ_ne_self b) x z
  generalize ((((((((w'.setCell ⟨b, 0, none⟩ (.int .u32 x.d0)).setCell ⟨b, 1, none⟩ (.int .u32 x.d1)).setCell ⟨b, 2, none⟩ (.int .u32 x.d2)).setCell ⟨b, 3, none⟩ (.int .u32 x.d3)).setCell ⟨b, 4, none⟩ (.int .u32 z.d0)).setCell ⟨b, 5, none⟩ (.int .u32 z.d1)).setCell ⟨b, 6, none⟩ (.int .u32 z.d2)).setCell ⟨b, 7, none⟩ (.int .u32 z.d3)) = w1 at *
  exact ⟨farB8 p1 (Nat.ne_of_lt (Nat.lt_succ_self b)) u v, putB8 (x := u) (z := v) p2 hm⟩
theorem below_put88 {B b : Nat} {w w1 : World} (h : Below B w w1) (hb : B ≤ b) (x z u v : D4) : Below B w ((((((((((((((((w1.setCell ⟨b, 0, none⟩ (.int .u32 x.d0)).setCell ⟨b, 1, none⟩ (.int .u32 x.d1)).setCell ⟨b, 2, none⟩ (.int .u32 x.d2)).setCell ⟨b, 3, none⟩ (.int .u32 x.d3)).setCell ⟨b, 4, none⟩ (.int .u32 z.d0)).setCell ⟨b, 5, none⟩ (.int .u32 z.d1)).setCell ⟨b, 6, none⟩ (.int .u32 z.d2)).setCell ⟨b, 7, none⟩ (.int .u32 z.d3)).setCell ⟨b + 1, 0, none⟩ (.int .u32 u.d0)).setCell ⟨b + 1, 1, none⟩ (.int .u32 u.d1)).setCell ⟨b + 1, 2, none⟩ (.int .u32 u.d2)).setCell ⟨b + 1, 3, none⟩ (.int .u32 u.d3)).setCell ⟨b + 1, 4, none⟩ (.int .u32 v.d0)).setCell ⟨b + 1, 5, none⟩ (.int .u32 v.d1)).setCell ⟨b + 1, 6, none⟩ (.int .u32 v.d2)).setCell ⟨b + 1, 7, none⟩ (.int .u32 v.d3)) := below_putB8 (below_putB8 h hb x z) (Nat.le_succ_of_le hb) u v
def clashD (a b : List D4) : Option ((D4 × D4) × (D4 × D4)) := clash pairS noneD a b
/-- What the code's clash answers. -/
def CC (a b : List D4) : Prop := ∀ (p q : D4 × D4) (ba oa ca bb ob cb : Nat) (w : World), clashD a b = some (p, q) → RdL w ba oa a → RdL w bb ob b → a.length ≤ ca → ca ≤ maxLen → b.length ≤ cb → cb ≤ maxLen → TurnsOk w →
  Calls Tryd.prog 41 #[.slice (some ⟨ba, oa, none⟩) a.length ca, .slice (some ⟨bb, ob, none⟩) b.length cb] w fun e w' => e = .returned (.tuple #[.agg #[.int .u32 p.1.d0, .int .u32 p.1.d1, .int .u32 p.1.d2, .int .u32 p.1.d3, .int .u32 p.2.d0, .int .u32 p.2.d1, .int .u32 p.2.d2, .int .u32 p.2.d3], .agg #[.int .u32 q.1.d0, .int .u32 q.1.d1, .int .u32 q.1.d2, .int .u32 q.1.d3, .int .u32 q.2.d0, .int .u32 q.2.d1, .int .u32 q.2.d2, .int .u32 q.2.d3]]) ∧ Below w.heap.size w w'
theorem cc_val (a b : List D4) (H : CC a b) (x z u v : D4) (ba oa ca bb ob cb n m : Nat) (w : World) (hn : n = a.length) (hm : m = b.length) (hc : clashD a b = some ((x, z), (u, v))) (ha : RdL w ba oa a) (hb : RdL w bb ob b) (h1 : a.length ≤ ca) (h2 : ca ≤ maxLen) (h3 : b.length ≤ cb) (h4 : cb ≤ maxLen) (hT : TurnsOk w) :
    Calls Tryd.prog 41 #[.slice (some ⟨ba, oa, none⟩) n ca, .slice (some ⟨bb, ob, none⟩) m cb] w fun e w' => e = .returned (.tuple #[.agg #[.int .u32 x.d0, .int .u32 x.d1, .int .u32 x.d2, .int .u32 x.d3, .int .u32 z.d0, .int .u32 z.d1, .int .u32 z.d2, .int .u32 z.d3], .agg #[.int .u32 u.d0, .int .u32 u.d1, .int .u32 u.d2, .int .u32 u.d3, .int .u32 v.d0, .int .u32 v.d1, .int .u32 v.d2, .int .u32 v.d3]]) ∧ Below w.heap.size w w' := by
  subst hn; subst hm
  exact H (x, z) (u, v) ba oa ca bb ob cb w hc ha hb h1 h2 h3 h4 hT
set_option maxHeartbeats 4000000 in
set_option maxRecDepth 100000 in
theorem cc_here (a b : List D4) (h1 : a.length = b.length) (hne : a ≠ b) (hrt : rootD a = rootD b) (hle : a.length ≤ 1000000) (hao : allD4 a) (hbo : allD4 b) (hh : ¬ (rootD (a.take (half a.length)) = rootD (b.take (half b.length)) ∧ rootD (a.drop (half a.length)) = rootD (b.drop (half b.length)))) : CC a b := by
  intro p q ba oa ca bb ob cb w hcl hra hrb hca hcam hcb hcbm hT
  have h2 : 2 ≤ a.length := clash_two pairS noneD h1 hne hrt
  obtain ⟨x, hx⟩ : ∃ x, rootD (a.take (half a.length)) = x := ⟨_, rfl⟩
  obtain ⟨z, hz⟩ : ∃ z, rootD (a.drop (half a.length)) = z := ⟨_, rfl⟩
  obtain ⟨u, hu⟩ : ∃ u, rootD (b.take (half b.length)) = u := ⟨_, rfl⟩
  obtain ⟨v, hv⟩ : ∃ v, rootD (b.drop (half b.length)) = v := ⟨_, rfl⟩
  have hpq : p = (x, z) ∧ q = (u, v) := by
    have := clash_here pairS noneD h1 hne hrt (by rw [h1]; intro e; simp only [Prod.mk.injEq] at e; rw [← h1] at e; exact hh ⟨by rw [← h1]; exact e.1, by rw [← h1]; exact e.2⟩)
    rw [show clash pairS noneD a b = clashD a b from rfl, hcl] at this
    simp only [Option.some.injEq, Prod.mk.injEq] at this
    rw [this.1, this.2, ← hx, ← hz, ← hu, ← hv, ← h1]
    exact ⟨rfl, rfl⟩
  obtain ⟨rfl, rfl⟩ := hpq
  have hbl : (sameD x u && sameD z v) = false := by
    rw [hx, hz, hu, hv] at hh
    rcases hq1 : sameD x u with _ | _
    · rfl
    · rcases hq2 : sameD z v with _ | _
      · rfl
      · exact absurd ⟨(sameD_iff x u).mp hq1, (sameD_iff z v).mp hq2⟩ hh
  obtain ⟨n, hn⟩ : ∃ n, a.length = n := ⟨_, rfl⟩
  have hn2 : b.length = n := by rw [← h1]; exact hn
  obtain ⟨w0, hw0⟩ : ∃ w0, (w.alloc (.cells #[.int .u32 0, .int .u32 0, .int .u32 0, .int .u32 0, .int .u32 0, .int .u32 0, .int .u32 0, .int .u32 0] 41)).alloc (.cells #[.int .u32 0, .int .u32 0, .int .u32 0, .int .u32 0, .int .u32 0, .int .u32 0, .int .u32 0, .int .u32 0] 41) = w0 := ⟨_, rfl⟩
  obtain ⟨hA, hS, hB, hsz⟩ := start88 w w0 hw0
  have hra0 := hra.on hB
  have hrb0 := hrb.on hB
  have hT0 := hT.below hB
  have hHa : ∀ w, RdL w ba oa a → TurnsOk w → Calls Tryd.prog 28 #[.slice (some ⟨ba, oa, none⟩) n ca] w fun e w' => e = .returned (.agg #[.int .u32 x.d0, .int .u32 x.d1, .int .u32 x.d2, .int .u32 x.d3, .int .u32 z.d0, .int .u32 z.d1, .int .u32 z.d2, .int .u32 z.d3]) ∧ Below w.heap.size w w' := fun w hr hT => halves_any a h2 hle (croot_any _ (by rw [List.length_take]; omega) (hao.take _)) (croot_any _ (by rw [List.length_drop]; omega) (hao.drop _)) x z hx hz n ba oa ca w hn hr (by omega) hcam hT
  have hHb : ∀ w, RdL w bb ob b → TurnsOk w → Calls Tryd.prog 28 #[.slice (some ⟨bb, ob, none⟩) n cb] w fun e w' => e = .returned (.agg #[.int .u32 u.d0, .int .u32 u.d1, .int .u32 u.d2, .int .u32 u.d3, .int .u32 v.d0, .int .u32 v.d1, .int .u32 v.d2, .int .u32 v.d3]) ∧ Below w.heap.size w w' := fun w hr hT => halves_any b (by omega) (by omega) (croot_any _ (by rw [List.length_take]; omega) (hbo.take _)) (croot_any _ (by rw [List.length_drop]; omega) (hbo.drop _)) u v hu hv n bb ob cb w hn2 hr (by omega) hcbm hT
  rw [hn, hn2]
  have hE := eqP_run x z u v
  rw [hbl] at hE
  go_enter Tryd.func41, Tryd.ntmps41
  go_wp2_with fail
  clear hw0
  refine (hHa w0 hra0 hT0).mono ?_
  rintro e w1 ⟨rfl, hA1⟩
  have hA1' := hA.on hA1
  have hS1 := hS.on hA1
  have hB1 := hB.trans (hA1.mono hB.size)
  have hra1 := hra0.on hA1
  have hrb1 := hrb0.on hA1
  have hT1 := hT0.below hA1
  clear hA hS hB hra0 hrb0 hT0 hA1 hsz
  go_wp2_with fail
  refine (hHb w1 hrb1 hT1).mono ?_
  rintro e w2 ⟨rfl, hA2⟩
  have hA2' := hA1'.on hA2
  have hS2 := hS1.on hA2
  have hB2 := hB1.trans (hA2.mono hB1.size)
  have hra2 := hra1.on hA2
  have hrb2 := hrb1.on hA2
  have hT2 := hT1.below hA2
  have hs2 := hA2'.lt
  have hs2' := hS2.lt
  clear hA1' hS1 hB1 hra1 hrb1 hT1 hA2 hHa hHb
  obtain ⟨k0, k1, k2, k3, k4, k5, k6, k7⟩ := Arr.c8 (y := nilS) hA2'
  obtain ⟨f0, f1, f2, f3, f4, f5, f6, f7⟩ := hA2'.f8
  obtain ⟨m0, m1, m2, m3, m4, m5, m6, m7⟩ := Arr.c8 (y := nilS) hS2
  obtain ⟨e0, e1, e2, e3, e4, e5, e6, e7⟩ := hS2.f8
  obtain ⟨w3, hw3⟩ : ∃ w3, ((((((((((((((((w2.setCell ⟨w.heap.size, 0, none⟩ (.int .u32 x.d0)).setCell ⟨w.heap.size, 1, none⟩ (.int .u32 x.d1)).setCell ⟨w.heap.size, 2, none⟩ (.int .u32 x.d2)).setCell ⟨w.heap.size, 3, none⟩ (.int .u32 x.d3)).setCell ⟨w.heap.size, 4, none⟩ (.int .u32 z.d0)).setCell ⟨w.heap.size, 5, none⟩ (.int .u32 z.d1)).setCell ⟨w.heap.size, 6, none⟩ (.int .u32 z.d2)).setCell ⟨w.heap.size, 7, none⟩ (.int .u32 z.d3)).setCell ⟨w.heap.size + 1, 0, none⟩ (.int .u32 u.d0)).setCell ⟨w.heap.size + 1, 1, none⟩ (.int .u32 u.d1)).setCell ⟨w.heap.size + 1, 2, none⟩ (.int .u32 u.d2)).setCell ⟨w.heap.size + 1, 3, none⟩ (.int .u32 u.d3)).setCell ⟨w.heap.size + 1, 4, none⟩ (.int .u32 v.d0)).setCell ⟨w.heap.size + 1, 5, none⟩ (.int .u32 v.d1)).setCell ⟨w.heap.size + 1, 6, none⟩ (.int .u32 v.d2)).setCell ⟨w.heap.size + 1, 7, none⟩ (.int .u32 v.d3)) = w3 := ⟨_, rfl⟩
  obtain ⟨hX3, hY3⟩ : Arr .u32 41 w.heap.size (both8 x z).toL w3 ∧ Arr .u32 41 (w.heap.size + 1) (both8 u v).toL w3 := by rw [← hw3]; exact fin88 hA2' rfl hS2 rfl
  have hB3 : Below w.heap.size w w3 := by rw [← hw3]; exact below_put88 hB2 (Nat.le_refl _) x z u v
  have hB23 : Below w.heap.size w2 w3 := by rw [← hw3]; exact below_put88 (Below.refl _ _) (Nat.le_refl _) x z u v
  have X8 := Arr.c8 hX3
  have Y8 := Arr.c8 hY3
  simp only [both8] at X8 Y8
  obtain ⟨x0, x1, x2, x3, x4, x5, x6, x7⟩ := X8
  obtain ⟨y0, y1, y2, y3, y4, y5, y6, y7⟩ := Y8
  obtain ⟨g0, g1, g2, g3, g4, g5, g6, g7⟩ := hX3.f8
  obtain ⟨j0, j1, j2, j3, j4, j5, j6, j7⟩ := hY3.f8
  clear hA2' hS2 hB2 hra2 hrb2 hT2
  go_wp2_with fail
  clear k0 k1 k2 k3 k4 k5 k6 k7 f0 f1 f2 f3 f4 f5 f6 f7 m0 m1 m2 m3 m4 m5 m6 m7 e0 e1 e2 e3 e4 e5 e6 e7 hw3
  go_region
  all_goals
    obtain ⟨hf1, hf2⟩ := fin88 (x := x) (z := z) (u := u) (v := v) hX3 rfl hY3 rfl
    have hBf := below_put88 (b := w.heap.size) hB3 (Nat.le_refl _) x z u v
    clear x0 x1 x2 x3 x4 x5 x6 x7 y0 y1 y2 y3 y4 y5 y6 y7 g0 g1 g2 g3 g4 g5 g6 g7 j0 j1 j2 j3 j4 j5 j6 j7
    go_wp2_with fail
    generalize ((((((((((((((((w3.setCell ⟨w.heap.size, 0, none⟩ (.int .u32 x.d0)).setCell ⟨w.heap.size, 1, none⟩ (.int .u32 x.d1)).setCell ⟨w.heap.size, 2, none⟩ (.int .u32 x.d2)).setCell ⟨w.heap.size, 3, none⟩ (.int .u32 x.d3)).setCell ⟨w.heap.size, 4, none⟩ (.int .u32 z.d0)).setCell ⟨w.heap.size, 5, none⟩ (.int .u32 z.d1)).setCell ⟨w.heap.size, 6, none⟩ (.int .u32 z.d2)).setCell ⟨w.heap.size, 7, none⟩ (.int .u32 z.d3)).setCell ⟨w.heap.size + 1, 0, none⟩ (.int .u32 u.d0)).setCell ⟨w.heap.size + 1, 1, none⟩ (.int .u32 u.d1)).setCell ⟨w.heap.size + 1, 2, none⟩ (.int .u32 u.d2)).setCell ⟨w.heap.size + 1, 3, none⟩ (.int .u32 u.d3)).setCell ⟨w.heap.size + 1, 4, none⟩ (.int .u32 v.d0)).setCell ⟨w.heap.size + 1, 5, none⟩ (.int .u32 v.d1)).setCell ⟨w.heap.size + 1, 6, none⟩ (.int .u32 v.d2)).setCell ⟨w.heap.size + 1, 7, none⟩ (.int .u32 v.d3)) = wf at *
    have X8 := Arr.c8 (show Arr .u32 41 w.heap.size (both8 x z).toL wf.drew from hf1)
    have Y8 := Arr.c8 (show Arr .u32 41 (w.heap.size + 1) (both8 u v).toL wf.drew from hf2)
    simp only [both8] at X8 Y8
    obtain ⟨x0, x1, x2, x3, x4, x5, x6, x7⟩ := X8
    obtain ⟨y0, y1, y2, y3, y4, y5, y6, y7⟩ := Y8
    refine bodyPost_ret (v := .tuple #[.agg #[.int .u32 x.d0, .int .u32 x.d1, .int .u32 x.d2, .int .u32 x.d3, .int .u32 z.d0, .int .u32 z.d1, .int .u32 z.d2, .int .u32 z.d3], .agg #[.int .u32 u.d0, .int .u32 u.d1, .int .u32 u.d2, .int .u32 u.d3, .int .u32 v.d0, .int .u32 v.d1, .int .u32 v.d2, .int .u32 v.d3]]) (by simp [results, Tryd.results41, go_sem, x0, x1, x2, x3, x4, x5, x6, x7, y0, y1, y2, y3, y4, y5, y6, y7]) rfl ⟨rfl, hBf.drew⟩
theorem drop_ne {a b : List D4} (hne : a ≠ b) {k : Nat} (h : a.take k = b.take k) : a.drop k ≠ b.drop k := fun e => hne (by rw [← List.take_append_drop k a, ← List.take_append_drop k b, h, e])
end Go.Proofs.YtnimbclnhgbdcaaDoor
