/-
  ImageGoesOn: the walk (written by gen_imT.py).
-/
import Derived.Test.YtfaedjpfbaiojaaImS
namespace Go.Proofs.Ytfaedjpfbaiojaa
open Go.RowKit

theorem run_append_empty {w : World} (base : Nat) (t ty e : TypeId) (i : TypeInfo) (size : Nat) (ht : Try.prog.underlying t = some (.slice e)) (hi : Try.prog.info? e = some i)
    (v : Value) (n : Nat) (xs : List Value) (hown : w.ownsRow base e size v n xs) (p : Option Addr) (c : Nat) :
    (Builtin.append_ #[t, t] ty #[v, .slice p 0 c]).run Try.prog w = .ok v w := by
  rcases hown.2 with ⟨rfl, rfl⟩ | ⟨g, cap, cur, rfl, _, _, hnc, _⟩
  · cases p <;> simp [Builtin.append_, run_underlying ht, sizeOf, typeInfo, hi, Builtin.lenOf, Builtin.firstCells, loadCells, loadCellsFrom, Result.andThen]
  · cases p <;> simp [Builtin.append_, run_underlying ht, sizeOf, typeInfo, hi, Builtin.lenOf, Builtin.firstCells, hnc, storeCells, loadCells, loadCellsFrom, Result.andThen]
theorem wCells_one (q : List Int) : ∀ u ∈ wCells q, u.oneCell' = true := fun u hu => by
  unfold wCells at hu
  obtain ⟨x, _, rfl⟩ := List.mem_map.1 hu
  rfl
theorem step_appW {ops : Array Oper} {o : Oper} {a : Act} {w : World} {K : Act → World → Prop} {Q : Exit → Act → World → Prop} {E : Prop} (hgd : o.guard = none) (s x : Operand)
    (ho : o.op = .call { callee := .builtin .append, args := #[s, x], argTypes := #[22, 22] })
    (B : Nat) (v : Value) (xs q : List Int) (hs : a.eval s = v) (hown : OwnsW B v xs w) (p : Option Addr) (m c : Nat) (hx : a.eval x = .slice p m c) (hm : m = q.length) (hr : RdW w (.slice p m c) q) (hxl : xs.length ≤ 100000) (hql : q.length ≤ 100000) (hB : B ≤ w.heap.size)
    (h : ∀ v' w', OwnsW B v' (xs ++ q) w' → w.grownBy w' v.ownBlock → K (a.put o.dst v') w') :
    if Region.wanted o (yielded ops a.tmps) = true then Oper.wp Try.prog o a w K Q else E := by
  obtain ⟨i0, hin, hz0, hz1, hz2⟩ := info_parts info_u32
  by_cases h0 : q.length = 0
  · have hq : q = [] := List.eq_nil_of_length_eq_zero h0
    subst hq
    subst hm
    have hw : Region.wanted o (yielded ops a.tmps) = true := by simp [Region.wanted, hgd]
    rw [if_pos hw]
    have hrun := run_append_empty (w := w) B 22 o.type 35 i0 1 Try.underlying22 hin v xs.length (wCells xs) hown p c
    unfold Oper.wp
    simp [execOp, ho, resolve, invoke, builtin, hs, hx, hrun, Result.andThen]
    exact h v w (by rw [List.append_nil]; exact hown) ⟨rfl, rfl, rfl, Nat.le_refl _, fun _ _ _ => rfl⟩
  · obtain ⟨p', cap, hv, hp⟩ := hr
    cases hv
    obtain ⟨b, of, rfl, hb, hcs⟩ := hp h0
    refine step_append_lies _ hgd s x _ ho B 35 i0 _ 1 4 Try.underlying22 hin hz0 hz1 hz2 rfl (by omega) v xs.length (wCells xs) hs hown ⟨b, of, none⟩ _ _ (wCells q) hx (by simp [wCells]) (fun j u hj => ?_) (wCells_one q) (by omega) (by unfold maxLen; omega) (by omega) hB w.heap.size rfl ?_
    · unfold wCells at hj
      rw [List.getElem?_map] at hj
      obtain ⟨y, hy, rfl⟩ := Option.map_eq_some_iff.1 hj
      obtain ⟨hlt, he⟩ := List.getElem?_eq_some_iff.1 hy
      rw [Lib.add_plain, ← he]
      exact hcs j hlt
    · intro g cap w' hown' hgrow _ _
      refine h _ w' ?_ hgrow
      unfold OwnsW
      have e : wCells (xs ++ q) = wCells xs ++ wCells q := by simp [wCells]
      rw [e, List.length_append]
      exact hown'
theorem ownsW_lit0 (w : World) (B : Nat) (hB : B ≤ w.heap.size) : OwnsW B (.slice (some ⟨w.heap.size, 0, none⟩) 0 0) [] (w.alloc (.cells #[] 35)) := World.ownsRow_lit w #[] 0 hB (Nat.zero_le _) rfl
theorem put_on {t u : ByteArray} {d : Int} {xs ys : List Int} (ht : t = ⟨(putL d xs).toArray⟩) (hu : u = ⟨(putL d (xs ++ ys)).toArray⟩) : t.size = 12 + 4 * xs.length ∧ u.size = 12 + 4 * (xs.length + ys.length) ∧ (u.extract 0 4).toList = (t.extract 0 4).toList ∧ (u.extract 8 t.size).toList = (t.extract 8 t.size).toList := by
  have l1 : t.data.toList = putL d xs := by rw [ht]
  have l2 : u.data.toList = putL d (xs ++ ys) := by rw [hu]
  have z1 : t.size = 12 + 4 * xs.length := by rw [← len_toList, l1, putL_length]
  have z2 : u.size = 12 + 4 * (xs.length + ys.length) := by rw [← len_toList, l2, putL_length, List.length_append]
  have w2 : ∀ x, (w4 x).length = 4 := fun x => w4n_length _ _
  refine ⟨z1, z2, ?_, ?_⟩
  · rw [ByteArray.toList_eq, ByteArray.toList_eq]
    simp only [ByteArray.data_extract, Array.toList_extract, List.extract_eq_take_drop, l1, l2, List.drop_zero]
    rfl
  · rw [ByteArray.toList_eq, ByteArray.toList_eq]
    simp only [ByteArray.data_extract, Array.toList_extract, List.extract_eq_take_drop, l1, l2]
    have e1 : ∀ zs : List Int, (putL d zs).drop 8 = w4 d ++ wbytes zs := fun zs => by
      have h : putL d zs = ([83, 69, 69, 68] ++ w4 (zs.length : Int)) ++ (w4 d ++ wbytes zs) := by
        unfold putL
        rw [wbytes_cons, wbytes_cons, wbytes_nil]
        simp
      rw [h]
      exact List.drop_left' (by rw [List.length_append, w2]; rfl)
    rw [e1, e1]
    have e2 : wbytes (xs ++ ys) = wbytes xs ++ wbytes ys := by simp [wbytes]
    rw [e2, ← List.append_assoc]
    have hlen : (w4 d ++ wbytes xs).length = t.size - 8 := by rw [List.length_append, w2, wbytes_length, z1]; omega
    rw [← hlen, List.take_left, List.take_length]
set_option maxHeartbeats 8000000 in
set_option maxRecDepth 100000 in
theorem igo_1 (p q : Option Addr) (n c l c2 : Nat) (d : Int) (w : World) (h : 500 < n) : Calls Try.prog 9 #[.agg #[.slice p n c, .int .i64 d], .slice q l c2] w fun e w' => e = .returned (.bool true) ∧ Below w.heap.size w w' := by
  have g1 : decide ((500 : Int) < (n : Int)) = true := decide_eq_true (by omega)
  obtain ⟨w1, hw1⟩ : ∃ w', w.alloc (.cells #[.slice p n c, .int .i64 d] 24) = w' := ⟨_, rfl⟩
  have hI : Box 24 w.heap.size [.slice p n c, .int .i64 d] w1 := by rw [← hw1]; exact Box.new 24 [.slice p n c, .int .i64 d] w
  have hD : Below w.heap.size w w1 := by rw [← hw1]; exact (Below.refl _ _).alloc (Nat.le_refl _) _
  have hB := hD
  clear hD
  go_enter Try.func9, Try.ntmps9
  go_wp2_with fail
  clear hw1
  refine (awake8_any w1).mono ?_
  rintro e w2 ⟨rfl, hD⟩
  replace hI := hI.on hD
  replace hB := hB.trans (hD.mono hB.size)
  clear hD
  have chI0 := hI.cell (j := 0) (v := .slice p n c) rfl
  have chI1 := hI.cell (j := 1) (v := .int .i64 d) rfl
  go_wp2_with fail
  clear chI0 chI1
  go_ret
  exact ⟨rfl, hB⟩
set_option maxHeartbeats 8000000 in
set_option maxRecDepth 100000 in
theorem igo_2 (p q : Option Addr) (n c l c2 : Nat) (d : Int) (w : World) (h : ¬ 500 < n) (h2 : 500 < l) : Calls Try.prog 9 #[.agg #[.slice p n c, .int .i64 d], .slice q l c2] w fun e w' => e = .returned (.bool true) ∧ Below w.heap.size w w' := by
  have g1 : decide ((500 : Int) < (n : Int)) = false := decide_eq_false (by omega)
  have g2 : decide ((500 : Int) < (l : Int)) = true := decide_eq_true (by omega)
  obtain ⟨w1, hw1⟩ : ∃ w', w.alloc (.cells #[.slice p n c, .int .i64 d] 24) = w' := ⟨_, rfl⟩
  have hI : Box 24 w.heap.size [.slice p n c, .int .i64 d] w1 := by rw [← hw1]; exact Box.new 24 [.slice p n c, .int .i64 d] w
  have hD : Below w.heap.size w w1 := by rw [← hw1]; exact (Below.refl _ _).alloc (Nat.le_refl _) _
  have hB := hD
  clear hD
  go_enter Try.func9, Try.ntmps9
  go_wp2_with fail
  clear hw1
  refine (awake8_any w1).mono ?_
  rintro e w2 ⟨rfl, hD⟩
  replace hI := hI.on hD
  replace hB := hB.trans (hD.mono hB.size)
  clear hD
  have chI0 := hI.cell (j := 0) (v := .slice p n c) rfl
  have chI1 := hI.cell (j := 1) (v := .int .i64 d) rfl
  go_wp2_with fail
  clear chI0 chI1
  go_ret
  exact ⟨rfl, hB⟩
set_option maxHeartbeats 8000000 in
set_option maxRecDepth 100000 in
theorem igo_3 (p q : Option Addr) (n c l c2 : Nat) (d : Int) (w : World) (h : ¬ 500 < n) (h2 : ¬ 500 < l) (r : rightM n d = false) : Calls Try.prog 9 #[.agg #[.slice p n c, .int .i64 d], .slice q l c2] w fun e w' => e = .returned (.bool true) ∧ Below w.heap.size w w' := by
  have g1 : decide ((500 : Int) < (n : Int)) = false := decide_eq_false (by omega)
  have g2 : decide ((500 : Int) < (l : Int)) = false := decide_eq_false (by omega)
  have H := Lib.hid r
  clear r
  obtain ⟨w1, hw1⟩ : ∃ w', w.alloc (.cells #[.slice p n c, .int .i64 d] 24) = w' := ⟨_, rfl⟩
  have hI : Box 24 w.heap.size [.slice p n c, .int .i64 d] w1 := by rw [← hw1]; exact Box.new 24 [.slice p n c, .int .i64 d] w
  have hD : Below w.heap.size w w1 := by rw [← hw1]; exact (Below.refl _ _).alloc (Nat.le_refl _) _
  have hB := hD
  clear hD
  go_enter Try.func9, Try.ntmps9
  go_wp2_with fail
  clear hw1
  refine (awake8_any w1).mono ?_
  rintro e w2 ⟨rfl, hD⟩
  replace hI := hI.on hD
  replace hB := hB.trans (hD.mono hB.size)
  clear hD
  have chI0 := hI.cell (j := 0) (v := .slice p n c) rfl
  have chI1 := hI.cell (j := 1) (v := .int .i64 d) rfl
  go_wp2_with fail
  clear chI0 chI1
  refine (rright8_val p n c d false w2 H.out).mono ?_
  rintro e w3 ⟨rfl, hD⟩
  replace hI := hI.on hD
  replace hB := hB.trans (hD.mono hB.size)
  clear hD
  go_wp2_with fail
  go_ret
  exact ⟨rfl, hB⟩
set_option maxHeartbeats 8000000 in
set_option maxRecDepth 100000 in
theorem igo_in (p q : Option Addr) (n c l c2 : Nat) (d : Int) (w : World) (xs ys : List Int) (hn : n = xs.length) (hl : l = ys.length) (hb : Bd xs) (hb' : Bd ys) (hX : RdW w (.slice p n c) xs) (hY : RdW w (.slice q l c2) ys) (h : ¬ 500 < n) (h2 : ¬ 500 < l) (r : rightM n d = true) : Calls Try.prog 9 #[.agg #[.slice p n c, .int .i64 d], .slice q l c2] w fun e w' => e = .returned (.bool true) ∧ Below w.heap.size w w' := by
  have g1 : decide ((500 : Int) < (n : Int)) = false := decide_eq_false (by omega)
  have g2 : decide ((500 : Int) < (l : Int)) = false := decide_eq_false (by omega)
  obtain ⟨t, ht⟩ : ∃ t : ByteArray, t = ⟨(putL d xs).toArray⟩ := ⟨_, rfl⟩
  obtain ⟨u, hu⟩ : ∃ t : ByteArray, t = ⟨(putL d (xs ++ ys)).toArray⟩ := ⟨_, rfl⟩
  obtain ⟨z1, z2, z3, z4⟩ := put_on ht hu
  have r2 : rightM (n + l) d = true := by unfold rightM at r ⊢; simp at r ⊢; omega
  have hb2 : Bd (xs ++ ys) := fun x hx => (List.mem_append.1 hx).elim (hb x) (hb' x)
  have HL : Hid (n + l = (xs ++ ys).length) := by show _ = _; rw [List.length_append]; omega
  have k1 : decide ((12 : Int) ≤ (t.size : Int)) = true := decide_eq_true (by omega)
  have k2 : ((u.size : Int) == (t.size : Int) + 4 * (l : Int)) = true := by rw [beq_iff_eq]; omega
  have k3 : ((u.extract 0 4).toList == (t.extract 0 4).toList) = true := by rw [z3]; exact beq_self_eq_true _
  have k4 : ((u.extract 8 t.size).toList == (t.extract 8 t.size).toList) = true := by rw [z4]; exact beq_self_eq_true _
  have b1 : (4 : Int) ≤ (u.size : Int) := by omega
  have b2 : (4 : Int) ≤ (t.size : Int) := by omega
  have b3 : (8 : Int) ≤ (t.size : Int) := by omega
  have b4 : (t.size : Int) ≤ (u.size : Int) := by omega
  have q1 : IntKind.i64.wrap (4 * (l : Int)) = 4 * (l : Int) := IntWalk.i64_in _ (by omega)
  have q2 : IntKind.i64.wrap ((t.size : Int) + 4 * (l : Int)) = (t.size : Int) + 4 * (l : Int) := IntWalk.i64_in _ (by omega)
  have hxl : xs.length ≤ 100000 := by omega
  have hyl : ys.length ≤ 100000 := by omega
  have H := Lib.hid r
  have H2 := Lib.hid r2
  have HN := Lib.hid hn
  have HN2 := Lib.hid hl
  have HT := Lib.hid ht
  have HU := Lib.hid hu
  have HBD := Lib.hid hb
  have HBD2 := Lib.hid hb2
  have HXL := Lib.hid hxl
  have HYL := Lib.hid hyl
  clear h h2 r r2 hn hl ht hu hb hb2 z1 z2 z3 z4 hxl hyl
  obtain ⟨w1, hw1⟩ : ∃ w', w.alloc (.cells #[.slice p n c, .int .i64 d] 24) = w' := ⟨_, rfl⟩
  have hI : Box 24 w.heap.size [.slice p n c, .int .i64 d] w1 := by rw [← hw1]; exact Box.new 24 [.slice p n c, .int .i64 d] w
  have hD : Below w.heap.size w w1 := by rw [← hw1]; exact (Below.refl _ _).alloc (Nat.le_refl _) _
  replace hX := hX.on hD
  replace hY := hY.on hD
  have hB := hD
  clear hD
  go_enter Try.func9, Try.ntmps9
  go_wp2_with fail
  clear hw1
  refine (awake8_any w1).mono ?_
  rintro e w2 ⟨rfl, hD⟩
  replace hI := hI.on hD
  replace hX := hX.on hD
  replace hY := hY.on hD
  replace hB := hB.trans (hD.mono hB.size)
  clear hD
  have chI0 := hI.cell (j := 0) (v := .slice p n c) rfl
  have chI1 := hI.cell (j := 1) (v := .int .i64 d) rfl
  go_wp2_with fail
  clear chI0 chI1
  refine (rright8_val p n c d true w2 H.out).mono ?_
  rintro e w3 ⟨rfl, hD⟩
  replace hI := hI.on hD
  replace hX := hX.on hD
  replace hY := hY.on hD
  replace hB := hB.trans (hD.mono hB.size)
  clear hD
  have chI0 := hI.cell (j := 0) (v := .slice p n c) rfl
  have chI1 := hI.cell (j := 1) (v := .int .i64 d) rfl
  go_wp2_with fail
  clear chI0 chI1
  refine (cput8_val p n c d xs t w3 HN.out HBD.out hX H.out HT.out).mono ?_
  rintro e w4 ⟨rfl, hD⟩
  replace hI := hI.on hD
  replace hX := hX.on hD
  replace hY := hY.on hD
  replace hB := hB.trans (hD.mono hB.size)
  clear hD
  have hXa : RdW w4.drew (.slice p n c) xs := hX
  have hYa : RdW w4.drew (.slice q l c2) ys := hY
  have hMa : Box 24 w.heap.size [.slice p n c, .int .i64 d] w4.drew := hI
  have hBa : Below w.heap.size w w4.drew := hB.drew
  have hCur : Below w4.drew.heap.size w4.drew w4.drew := Below.refl _ _
  clear hX hY hI hB
  go_wp2_with fail
  refine wp_region_held_drew (S := fun w' => w'.cell? ⟨w.heap.size, 0, none⟩ = some (.slice p n c) ∧ w'.cell? ⟨w.heap.size, 1, none⟩ = some (.int .i64 d)) (by kernel_rfl) ⟨hMa.cell (j := 0) rfl, hMa.cell (j := 1) rfl⟩ (fun hHeld => ?_)
  generalize w4.drew = W0 at *
  refine wpAnyH_take (i := 1) (oi := _) (v := ?vvz1) rfl (by kernel_rfl) (by kernel_rfl) (by kernel_rfl) (fun _ _ _ h => h) (Or.inl ⟨by kernel_rfl, ?hyz1⟩) hHeld ?restz1
  case hyz1 => intro w hSw; (try dsimp only at hSw); (try go_split_ands); go_simp; try with_reducible rfl
  try simp only [List.getElem_toArray, List.getElem_cons_succ, List.getElem_cons_zero, Act.put, List.setIfInBounds_toArray, List.set_cons_zero, List.set_cons_succ]
  refine wpAnyH_take (i := 2) (oi := _) (v := ?vvz2) rfl (by kernel_rfl) (by kernel_rfl) (by kernel_rfl) (fun _ _ _ h => h) (Or.inl ⟨by kernel_rfl, ?hyz2⟩) hHeld ?restz2
  case hyz2 => intro w hSw; (try dsimp only at hSw); (try go_split_ands); go_simp; try with_reducible rfl
  try simp only [List.getElem_toArray, List.getElem_cons_succ, List.getElem_cons_zero, Act.put, List.setIfInBounds_toArray, List.set_cons_zero, List.set_cons_succ]
  refine wpAnyH_take (i := 4) (oi := _) (v := ?vvz3) rfl (by kernel_rfl) (by kernel_rfl) (by kernel_rfl) (fun _ _ _ h => h) (Or.inl ⟨by kernel_rfl, ?hyz3⟩) hHeld ?restz3
  case hyz3 => intro w hSw; (try dsimp only at hSw); (try go_split_ands); go_simp; try with_reducible rfl
  try simp only [List.getElem_toArray, List.getElem_cons_succ, List.getElem_cons_zero, Act.put, List.setIfInBounds_toArray, List.set_cons_zero, List.set_cons_succ]
  refine wpAnyH_take (i := 6) (oi := _) (v := ?vvz4) rfl (by kernel_rfl) (by kernel_rfl) (by kernel_rfl) (fun _ _ _ h => h) (Or.inl ⟨by kernel_rfl, ?hyz4⟩) hHeld ?restz4
  case hyz4 => intro w hSw; (try dsimp only at hSw); (try go_split_ands); go_simp; try with_reducible rfl
  try simp only [List.getElem_toArray, List.getElem_cons_succ, List.getElem_cons_zero, Act.put, List.setIfInBounds_toArray, List.set_cons_zero, List.set_cons_succ]
  refine wpAnyH_take (i := 7) (oi := _) (v := ?vvz5) rfl (by kernel_rfl) (by kernel_rfl) (by kernel_rfl) (fun _ _ _ h => h) (Or.inl ⟨by kernel_rfl, ?hyz5⟩) hHeld ?restz5
  case hyz5 => intro w hSw; (try dsimp only at hSw); (try go_split_ands); go_simp; try with_reducible rfl
  try simp only [List.getElem_toArray, List.getElem_cons_succ, List.getElem_cons_zero, Act.put, List.setIfInBounds_toArray, List.set_cons_zero, List.set_cons_succ]
  refine wpAnyH_ready (rs := [0]) (by kernel_rfl) (by simp) ?_
  refine AllReadyH.cons (o := _) rfl (fun K hK => ?_) AllReadyH.nil
  go_simp
  have hO1 := ownsW_lit0 W0 W0.heap.size (Nat.le_refl _)
  have hC1 : Below W0.heap.size W0 (W0.alloc (.cells #[] 35)) := (Below.refl _ _).alloc (Nat.le_refl _) _
  generalize W0.alloc (.cells #[] 35) = W1 at *
  generalize hv1 : Value.slice (some ⟨W0.heap.size, 0, none⟩) 0 0 = v1 at *
  have hM1 := hMa.on hC1
  refine hK.out _ _ ⟨hM1.cell (j := 0) rfl, hM1.cell (j := 1) rfl⟩ (fun hHeld => ?_)
  clear hK K
  try simp only [List.getElem_toArray, List.getElem_cons_succ, List.getElem_cons_zero, Act.put, List.setIfInBounds_toArray, List.set_cons_zero, List.set_cons_succ]
  refine wpAnyH_ready (rs := [3]) (by kernel_rfl) (by simp) ?_
  refine AllReadyH.cons (o := _) rfl (fun K hK => ?_) AllReadyH.nil
  refine step_appW rfl _ _ rfl W0.heap.size v1 [] xs rfl hO1 p n c rfl HN.out (hXa.on hC1) (Nat.zero_le _) HXL.out hC1.size ?_
  intro v2 W2 hO2 hg2
  have hC2 : Below W0.heap.size W0 W2 := hC1.grown hg2 hC1.size (fun k e => (World.ownsRow.lt hO1 k e).1)
  rw [List.nil_append] at hO2
  have hM2 := hMa.on hC2
  refine hK.out _ _ ⟨hM2.cell (j := 0) rfl, hM2.cell (j := 1) rfl⟩ (fun hHeld => ?_)
  clear hK K
  try simp only [List.getElem_toArray, List.getElem_cons_succ, List.getElem_cons_zero, Act.put, List.setIfInBounds_toArray, List.set_cons_zero, List.set_cons_succ]
  refine wpAnyH_ready (rs := [5]) (by kernel_rfl) (by simp) ?_
  refine AllReadyH.cons (o := _) rfl (fun K hK => ?_) AllReadyH.nil
  refine step_appW rfl _ _ rfl W0.heap.size v2 xs ys rfl hO2 q l c2 rfl HN2.out (hYa.on hC2) HXL.out HYL.out hC2.size ?_
  intro v3 W3 hO3 hg3
  have hC3 : Below W0.heap.size W0 W3 := hC2.grown hg3 hC2.size (fun k e => (World.ownsRow.lt hO2 k e).1)
  have hM3 := hMa.on hC3
  obtain ⟨p3, c3, hv3, hp3⟩ := hO3.reads
  have hR3 : RdW W3 v3 (xs ++ ys) := ⟨p3, c3, hv3, hp3⟩
  rw [← HL.out] at hv3
  subst hv3
  refine hK.out _ _ ⟨hM3.cell (j := 0) rfl, hM3.cell (j := 1) rfl⟩ (fun hHeld => ?_)
  clear hK K hO1 hO2 hO3 hg2 hg3 hp3
  try simp only [List.getElem_toArray, List.getElem_cons_succ, List.getElem_cons_zero, Act.put, List.setIfInBounds_toArray, List.set_cons_zero, List.set_cons_succ]
  refine wpAnyH_take (i := 8) (oi := _) (v := ?vvz6) rfl (by kernel_rfl) (by kernel_rfl) (by kernel_rfl) (fun _ _ _ h => h) (Or.inl ⟨by kernel_rfl, ?hyz6⟩) hHeld ?restz6
  case hyz6 => intro w hSw; (try dsimp only at hSw); (try go_split_ands); go_simp; try with_reducible rfl
  try simp only [List.getElem_toArray, List.getElem_cons_succ, List.getElem_cons_zero, Act.put, List.setIfInBounds_toArray, List.set_cons_zero, List.set_cons_succ]
  refine wpAnyH_ready (rs := [9]) (by kernel_rfl) (by simp) ?_
  refine AllReadyH.cons (o := _) rfl (fun K hK => ?_) AllReadyH.nil
  go_simp
  refine (cput8_val p3 (n + l) c3 d (xs ++ ys) u W3 HL.out HBD2.out hR3 H2.out HU.out).mono ?_
  rintro e wb ⟨rfl, hP⟩
  go_wp2_with fail
  have hCb := hC3.trans (hP.mono hC3.size)
  have hMb := hMa.on hCb
  refine hK.out _ _ ⟨hMb.cell (j := 0) rfl, hMb.cell (j := 1) rfl⟩ (fun hHeld => ?_)
  clear hK K
  try simp only [List.getElem_toArray, List.getElem_cons_succ, List.getElem_cons_zero, Act.put, List.setIfInBounds_toArray, List.set_cons_zero, List.set_cons_succ]
  refine wpAnyH_take (i := 10) (oi := _) (v := ?vvz7) rfl (by kernel_rfl) (by kernel_rfl) (by kernel_rfl) (fun _ _ _ h => h) (Or.inl ⟨by kernel_rfl, ?hyz7⟩) hHeld ?restz7
  case hyz7 => intro w hSw; (try dsimp only at hSw); (try go_split_ands); go_simp; try with_reducible rfl
  try simp only [List.getElem_toArray, List.getElem_cons_succ, List.getElem_cons_zero, Act.put, List.setIfInBounds_toArray, List.set_cons_zero, List.set_cons_succ]
  refine wpAnyH_take (i := 11) (oi := _) (v := ?vvz8) rfl (by kernel_rfl) (by kernel_rfl) (by kernel_rfl) (fun _ _ _ h => h) (Or.inl ⟨by kernel_rfl, ?hyz8⟩) hHeld ?restz8
  case hyz8 => intro w hSw; (try dsimp only at hSw); (try go_split_ands); go_simp; try with_reducible rfl
  try simp only [List.getElem_toArray, List.getElem_cons_succ, List.getElem_cons_zero, Act.put, List.setIfInBounds_toArray, List.set_cons_zero, List.set_cons_succ]
  refine wpAnyH_take (i := 12) (oi := _) (v := ?vvz9) rfl (by kernel_rfl) (by kernel_rfl) (by kernel_rfl) (fun _ _ _ h => h) (Or.inl ⟨by kernel_rfl, ?hyz9⟩) hHeld ?restz9
  case hyz9 => intro w hSw; (try dsimp only at hSw); (try go_split_ands); go_simp; try with_reducible rfl
  try simp only [List.getElem_toArray, List.getElem_cons_succ, List.getElem_cons_zero, Act.put, List.setIfInBounds_toArray, List.set_cons_zero, List.set_cons_succ]
  refine wpAnyH_take (i := 13) (oi := _) (v := ?vvz10) rfl (by kernel_rfl) (by kernel_rfl) (by kernel_rfl) (fun _ _ _ h => h) (Or.inl ⟨by kernel_rfl, ?hyz10⟩) hHeld ?restz10
  case hyz10 => intro w hSw; (try dsimp only at hSw); (try go_split_ands); go_simp; try with_reducible rfl
  try simp only [List.getElem_toArray, List.getElem_cons_succ, List.getElem_cons_zero, Act.put, List.setIfInBounds_toArray, List.set_cons_zero, List.set_cons_succ]
  refine wpAnyH_take (i := 14) (oi := _) (v := ?vvz11) rfl (by kernel_rfl) (by kernel_rfl) (by kernel_rfl) (fun _ _ _ h => h) (Or.inl ⟨by kernel_rfl, ?hyz11⟩) hHeld ?restz11
  case hyz11 => intro w hSw; (try dsimp only at hSw); (try go_split_ands); go_simp; try with_reducible rfl
  try simp only [List.getElem_toArray, List.getElem_cons_succ, List.getElem_cons_zero, Act.put, List.setIfInBounds_toArray, List.set_cons_zero, List.set_cons_succ]
  refine wpAnyH_done (by kernel_rfl) ?_ _
  have hB := hBa.trans (hCb.mono hBa.size)
  clear hMa hBa hCur hXa hYa hC1 hC2 hC3 hCb hM1 hM2 hM3 hR3 hP hMb hHeld
  go_wp2_with fail
  go_region_held3 (fun w' => True) (trivial) (trivial)
  go_wp2_with fail
  go_ret
  exact ⟨rfl, hB.drew⟩
theorem igo_walk (p q : Option Addr) (n c l c2 : Nat) (d : Int) (w : World) (xs ys : List Int) (hn : n = xs.length) (hl : l = ys.length) (hb : Bd xs) (hb' : Bd ys) (hX : RdW w (.slice p n c) xs) (hY : RdW w (.slice q l c2) ys) : Calls Try.prog 9 #[.agg #[.slice p n c, .int .i64 d], .slice q l c2] w fun e w' => e = .returned (.bool true) ∧ Below w.heap.size w w' := by
  by_cases h : 500 < n
  · exact igo_1 p q n c l c2 d w h
  by_cases h2 : 500 < l
  · exact igo_2 p q n c l c2 d w h h2
  cases r : rightM n d
  · exact igo_3 p q n c l c2 d w h h2 r
  · exact igo_in p q n c l c2 d w xs ys hn hl hb hb' hX hY h h2 r
end Go.Proofs.Ytfaedjpfbaiojaa
