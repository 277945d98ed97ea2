/-
  The contract of the document's own operation on both words, bit by bit.
-/
import Derived.Test.YtojgngefgianpaaDoorBits
import Derived.WalkSmall
namespace Go.Proofs.YtojgngefgianpaaDoor
open Go.RowKit

/-- What one round makes of the bits p and q. -/
def oneB (op p q : Int) : Int := if op = 9 then (if p + q = 2 then 1 else 0) else if op = 10 then (if p + q = 0 then 0 else 1) else (if p + q = 1 then 1 else 0)
theorem oneB_res (op : Int) (x y t : Nat) (h : op = 9 ∨ op = 10 ∨ op = 11) : oneB op (bitF x t) (bitF y t) = res op x y t := by
  rcases h with rfl | rfl | rfl
  · rw [res_9]; rfl
  · rw [res_10]; rfl
  · rw [res_11]; rfl

theorem below_grown {w w' : World} (h : Below w.heap.size w w') : w.grownBy w' none := ⟨h.os, h.tape, h.output, h.size, fun k hk _ => h.block k hk⟩

theorem round0 {r f : Nat → Int} {gx gy cx B j n y : Nat} {w wr : World} (hown : wr.ownsRow B 3 1 (.slice (some ⟨gx, 0, none⟩) 32 cx) 32 (rowF 32 (mixF r f j)))
    (HC : Hid (∀ t, t < 32 → wr.cell? ⟨gy, t, none⟩ = some (.int .i64 (bitF y t)))) (hW : Below B w wr) (hgx : B ≤ gx) (hne : gx ≠ gy) (hr : r j = 0) :
    ((wr.drewN n).setCell ⟨gx, j, none⟩ (.int .i64 0)).ownsRow B 3 1 (.slice (some ⟨gx, 0, none⟩) 32 cx) 32 (rowF 32 (mixF r f (j + 1))) ∧
      Hid (∀ t, t < 32 → ((wr.drewN n).setCell ⟨gx, j, none⟩ (.int .i64 0)).cell? ⟨gy, t, none⟩ = some (.int .i64 (bitF y t))) ∧ Below B w ((wr.drewN n).setCell ⟨gx, j, none⟩ (.int .i64 0)) := by
  have h : (wr.drewN n).ownsRow B 3 1 (.slice (some ⟨gx, 0, none⟩) 32 cx) 32 (rowF 32 (mixF r f j)) := hown
  refine ⟨?_, fun t ht => ?_, (below_drewN hW n).setCell (p := ⟨gx, j, none⟩) hgx _⟩
  · rw [← mixF_step, hr]; exact (h.stored j _).1
  · rw [World.cell?_setCell_other _ _ _ _ (by intro q; cases q; exact hne rfl), World.cell?_drewN]; exact HC.out t ht
theorem round1 {r f : Nat → Int} {gx gy cx B j n y : Nat} {w wr : World} (hown : wr.ownsRow B 3 1 (.slice (some ⟨gx, 0, none⟩) 32 cx) 32 (rowF 32 (mixF r f j)))
    (HC : Hid (∀ t, t < 32 → wr.cell? ⟨gy, t, none⟩ = some (.int .i64 (bitF y t)))) (hW : Below B w wr) (hgx : B ≤ gx) (hne : gx ≠ gy) (hr : r j = 1) :
    (((wr.drewN n).setCell ⟨gx, j, none⟩ (.int .i64 0)).setCell ⟨gx, j, none⟩ (.int .i64 1)).ownsRow B 3 1 (.slice (some ⟨gx, 0, none⟩) 32 cx) 32 (rowF 32 (mixF r f (j + 1))) ∧
      Hid (∀ t, t < 32 → (((wr.drewN n).setCell ⟨gx, j, none⟩ (.int .i64 0)).setCell ⟨gx, j, none⟩ (.int .i64 1)).cell? ⟨gy, t, none⟩ = some (.int .i64 (bitF y t))) ∧ Below B w (((wr.drewN n).setCell ⟨gx, j, none⟩ (.int .i64 0)).setCell ⟨gx, j, none⟩ (.int .i64 1)) := by
  have h : (wr.drewN n).ownsRow B 3 1 (.slice (some ⟨gx, 0, none⟩) 32 cx) 32 (rowF 32 (mixF r f j)) := hown
  refine ⟨?_, fun t ht => ?_, ((below_drewN hW n).setCell (p := ⟨gx, j, none⟩) hgx _).setCell (p := ⟨gx, j, none⟩) hgx _⟩
  · rw [← mixF_two r f j 0, hr]; exact ((h.stored j _).1.stored j _).1
  · rw [World.cell?_setCell_other _ _ _ _ (by intro q; cases q; exact hne rfl), World.cell?_setCell_other _ _ _ _ (by intro q; cases q; exact hne rfl), World.cell?_drewN]; exact HC.out t ht

set_option maxHeartbeats 2000000 in
set_option maxRecDepth 100000 in
theorem both_any (op a b : Int) (w : World) (ha : 0 ≤ a) (ha' : a < 4294967296) (hb : 0 ≤ b) (hb' : b < 4294967296) (h : op = 9 ∨ op = 10 ∨ op = 11) :
    Calls Tryd.prog 32 #[.int .i64 op, .int .u32 a, .int .u32 b] w fun e w' => e = .returned (.int .u32 (app op a b)) ∧ Below w.heap.size w w' := by
  obtain ⟨x, hxe⟩ : ∃ x : Nat, x = a.toNat := ⟨_, rfl⟩
  obtain ⟨y, hye⟩ : ∃ y : Nat, y = b.toNat := ⟨_, rfl⟩
  have hx : x < 4294967296 := by omega
  have hy : y < 4294967296 := by omega
  have HR := Lib.hid (resW_app op x y hx hy h)
  have HE : Hid (app op x y = app op a b) := by
    show app op (x : Int) (y : Int) = app op a b
    rw [show (x : Int) = a by omega, show (y : Int) = b by omega]
  have HX := Lib.hid hxe
  have HY := Lib.hid hye
  have HO := Lib.hid h
  clear hxe hye h
  go_enter Tryd.func32, Tryd.ntmps32
  go_wp2_with fail
  refine (refBits_any a _ ha ha').mono ?_
  rintro e w1 ⟨r1, rfl, ⟨gx, cx, rfl, hgx, hgx1, hown⟩, hB1⟩
  go_wp2_with fail
  refine (refBits_any b _ hb hb').mono ?_
  rintro e w2 ⟨r2, rfl, ⟨gy, cy, rfl, hgy, hgy1, hown2⟩, hB2⟩
  have hown1 := hown.kept (below_grown hB2) (Or.inr (by simp [Value.ownBlock]))
  have hV : Below w.heap.size w w2 := hB1.trans (hB2.mono hB1.size)
  have hyc : ∀ t, t < 32 → w2.cell? ⟨gy, t, none⟩ = some (.int .i64 (bitF y t)) := fun t ht => by
    rw [hown2.cellAt t (by omega), HY.out]; exact rowF_at 32 _ t ht
  have hne : gx ≠ gy := by omega
  rw [← HX.out] at hown1
  have HYC := Lib.hid hyc
  clear hown hown2 hyc hB1 hB2
  go_wp2_with fail
  go_loopw [9] (fun i wr => ∃ j : Nat, j ≤ 32 ∧ i = .int .i64 j ∧ wr.ownsRow w.heap.size 3 1 (.slice (some ⟨gx, 0, none⟩) 32 cx) 32 (rowF 32 (mixF (res op x y) (bitF x) j)) ∧ Hid (∀ t, t < 32 → wr.cell? ⟨gy, t, none⟩ = some (.int .i64 (bitF y t))) ∧ Below w.heap.size w wr) (fun i _ => 32 - (intOf i).toNat)
  case atStart => exact ⟨0, by omega, rfl, by rw [mixF_zero]; exact hown1, HYC, hV⟩
  case round =>
    obtain ⟨j, hj, rfl, hown, HC, hW⟩ := hrel
    by_cases hlt : j < 32
    · have c1 : wr.cell? ⟨gx, j, none⟩ = some (.int .i64 (bitF x j)) := by
        rw [hown.cellAt j (by omega), rowF_at 32 _ j hlt, mixF_here]
      have c2 := HC.out j hlt
      have f1 := hown.frozenAt j
      obtain ⟨p, hp⟩ : ∃ p : Int, p = bitF x j := ⟨_, rfl⟩
      obtain ⟨q, hq⟩ : ∃ q : Int, q = bitF y j := ⟨_, rfl⟩
      have hpb := bitF_bd x j
      have hqb := bitF_bd y j
      have hres := oneB_res op x y j HO.out
      rw [← hp, ← hq] at hres
      rw [← hp] at c1 hpb
      rw [← hq] at c2 hqb
      obtain ⟨hp0, hp1⟩ := hpb
      obtain ⟨hq0, hq1⟩ := hqb
      have HRES := Lib.hid hres
      clear hres hp hq
      have hsum : IntKind.i64.wrap (p + q) = p + q := IntWalk.i64_in _ (by omega)
      have hj0 : 0 ≤ (j : Int) := by omega
      have hj1 : (j : Int) < 32 := by omega
      rcases HO.out with rfl | rfl | rfl <;> rcases (show p = 0 ∨ p = 1 by omega) with rfl | rfl <;> rcases (show q = 0 ∨ q = 1 by omega) with rfl | rfl
      all_goals
        clear hp0 hp1 hq0 hq1
        go_wp2
        go_quiet (fail)
        go_wp2
        go_roundw
        case rel =>
          refine ⟨j + 1, by omega, by go_num, ?_⟩
          first
            | (have hr := HRES.out.symm.trans (show oneB _ _ _ = (0 : Int) by decide); exact round0 hown HC hW hgx hne hr)
            | (have hr := HRES.out.symm.trans (show oneB _ _ _ = (1 : Int) by decide); exact round1 hown HC hW hgx hne hr)
        case measure => simp [intOf]; omega
    · have : j = 32 := by omega
      subst this
      rw [mixF_full] at hown
      have hz : ∀ t, t < 32 → wr.cell? ⟨gx, t, none⟩ = some (.int .i64 (bitF (resW op x y) t)) := fun t ht => by
        rw [hown.cellAt t (by omega), rowF_at 32 _ t ht, res_bitF]
      go_wp2_with (go_at_call 39; refine (refOf_any (resW op x y) gx cx wr (resW_lt op x y hx hy) hz).mono ?_; rintro e w3 ⟨rfl, rfl⟩)
      go_ret
      exact ⟨ret_intB (HR.out.trans HE.out), hW⟩
end Go.Proofs.YtojgngefgianpaaDoor
