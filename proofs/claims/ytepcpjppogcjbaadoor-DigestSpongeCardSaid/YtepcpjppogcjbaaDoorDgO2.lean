/-
  The contract of the document's Of.
-/
import Derived.Test.YtepcpjppogcjbaaDoorDgJ
import Derived.Test.YtepcpjppogcjbaaDoorRefWords
namespace Go.Proofs.YtepcpjppogcjbaaDoor
open Go.RowKit

theorem rwords_named (t : ByteArray) (xs : List Int) (w : World) (hs : t.size ≤ 1000000) (h : t.size % 4 = 0) (hx : wordsR t.data.toList = xs) :
    Calls Tryd.prog 31 #[.string t] w fun e w' => ∃ v, e = .returned (.tuple #[v, .int .i64 0]) ∧ OwnsW w.heap.size v xs w' ∧ Below w.heap.size w w' := by
  subst hx; exact refWords_ok t w hs h
theorem rtake_named (s y : S8) (d : D4) (w : World) (hs : s.ok) (hd : d.ok) (hy : takeS s d = y) : Calls Tryd.prog 32 #[.agg #[.int .u32 s.x0, .int .u32 s.x1, .int .u32 s.x2, .int .u32 s.x3, .int .u32 s.x4, .int .u32 s.x5, .int .u32 s.x6, .int .u32 s.x7], .agg #[.int .u32 d.d0, .int .u32 d.d1, .int .u32 d.d2, .int .u32 d.d3]] w fun e w' => e = .returned (.agg #[.int .u32 y.x0, .int .u32 y.x1, .int .u32 y.x2, .int .u32 y.x3, .int .u32 y.x4, .int .u32 y.x5, .int .u32 y.x6, .int .u32 y.x7]) ∧ Below w.heap.size w w' := by
  subst hy; exact take_any s d w hs hd

set_option maxHeartbeats 4000000 in
set_option maxRecDepth 100000 in
theorem rof_any (s : ByteArray) (w : World) (hs : s.size ≤ 100000) : Calls Tryd.prog 17 #[.string s] w fun e w' => e = .returned (ofD s.data.toList).val ∧ Below w.heap.size w w' := by
  obtain ⟨i0, hi, hz0, hz1, hz2⟩ := info_parts info_u32
  have hpn := pad_mod s.size
  have hpz := padN_lt s.size
  have HPN := Lib.hid hpn
  have HPD : Hid (padN s.size = (23 - s.size % 16) % 16) := rfl
  clear hpn
  have hs1 : (s.size : Int) ≤ 100000 := by omega
  obtain ⟨w0, hw0⟩ : ∃ w0, w.alloc (.cells #[.int .u32 0, .int .u32 0, .int .u32 0, .int .u32 0] 29) = w0 := ⟨_, rfl⟩
  obtain ⟨hR, hB⟩ := start4 w w0 hw0
  have hadd := fun W => run_string_add_sum (P := Tryd.prog) (w := W) s ⟨#[128]⟩ (by show s.size + 1 ≤ _; omega)
  go_enter Tryd.func17, Tryd.ntmps17
  go_wp2_with fail
  clear hw0 hadd
  go_loopg [0] (padN s.size) (fun gk v wr => ∃ (k : Nat) (t : ByteArray), k + gk = padN s.size ∧ v = .string t ∧ t.size = s.size + 1 + k ∧ Hid (t.data.toList = s.data.toList ++ padK k) ∧ wr = w0)
  case atStart =>
    refine ⟨0, _, by omega, rfl, ?_, ?_, rfl⟩
    · rw [ByteArray.size_append]; rfl
    · show (s ++ (⟨#[128]⟩ : ByteArray)).data.toList = _
      rw [ByteArray.data_append, Array.toList_append]; rfl
  case round =>
    obtain ⟨k, t, hk, rfl, hts, HT, rfl⟩ := hrel
    by_cases hg : 0 < gk
    · have hc : ((t.size : Int) % 16 != 8) = true := by
        have := HPD.out
        simp; omega
      have hadd := fun W => run_string_add_sum (P := Tryd.prog) (w := W) t ⟨#[0]⟩ (by show t.size + 1 ≤ _; omega)
      have HTS := Lib.hid hts
      have ht1 : (t.size : Int) ≤ 100100 := by omega
      clear hts
      go_wp2_with fail
      go_roundg (gk - 1)
      case measure => omega
      case rel =>
        refine ⟨k + 1, _, by omega, rfl, ?_, ?_, rfl⟩
        · rw [ByteArray.size_append, HTS.out]; rfl
        · show (t ++ (⟨#[0]⟩ : ByteArray)).data.toList = _
          rw [ByteArray.data_append, Array.toList_append, HT.out, List.append_assoc]
          simp [padK, List.replicate_succ']
    · have hkn : k = padN s.size := by omega
      subst hkn
      have hc : ((t.size : Int) % 16 != 8) = false := by
        have := HPN.out
        simp; omega
      have HT4 := Lib.hid (show t.size ≤ 1000000 ∧ t.size % 4 = 0 by have := HPN.out; omega)
      obtain ⟨xs, hxs⟩ : ∃ xs, wordsR t.data.toList = xs := ⟨_, rfl⟩
      have HXS := Lib.hid hxs
      have HA : Hid (allWs s.data.toList = xs ++ [(s.size : Int), 0]) := by
        show _ = _
        rw [allWs, ← hxs, HT.out, len_listH]; rfl
      have hxn : xs.length = t.size / 4 := by rw [← hxs, wordsR_length, len_listH]
      have HXN := Lib.hid hxn
      have hx1 : xs.length ≤ 100000 := by omega
      have hc16 := Lib.hid (show t.size % 16 = 8 by have := HPN.out; omega)
      clear hxs hts hxn HT hg
      go_wp2_with fail
      clear hc
      refine (rwords_named t xs _ HT4.out.1 HT4.out.2 HXS.out).mono ?_
      rintro e w1 ⟨v, rfl, hown, hC⟩
      have hR1 := hR.on hC
      have hB1 := hB.trans (hC.mono hB.size)
      have hb0 := hB.size
      have hrl := hR.lt
      clear hR hB
      have hownr : w1.ownsRow wr.heap.size 22 1 v xs.length (wCells xs) := hown
      have hn2 : (s.size : Int) / 4294967296 = 0 := by omega
      go_wp2_with (at_builtin; refine wpList_append_own _ rfl _ _ 49 rfl wr.heap.size 22 i0 (.int .u32 0) 1 4 Tryd.underlying49 hi hz0 hz1 hz2 rfl (by decide) _ _ _ rfl (hownr.alloc _) ⟨w1.heap.size, 0, none⟩ 2 2 [.int .u32 (s.size : Int), .int .u32 0] rfl rfl ?c1 ?c2 ?c3 ?c4 ?c5 ?_)
      case c1 => exact World.news_of_block (cs := #[.int .u32 (s.size : Int), .int .u32 0]) (t := 22) (fr := (0, 0)) (heap_alloc_new w1 _)
      case c2 => simp [Value.oneCell']
      case c3 => unfold maxLen; omega
      case c4 => omega
      case c5 => have := hC.size; simp; omega
      intro v' w2 hown' hgrow _
      have hV : Below wr.heap.size (w1.alloc (.cells #[.int .u32 (s.size : Int), .int .u32 0] 22)) w2 := (Below.refl _ _).grown hgrow (by have := hC.size; simp; omega) (fun k hk => (hownr.lt k hk).1)
      have hR2 := (hR1.al (.cells #[.int .u32 (s.size : Int), .int .u32 0] 22)).thr hV hrl
      have hB2 := (hB1.alloc hB1.size (.cells #[.int .u32 (s.size : Int), .int .u32 0] 22)).trans (hV.mono hb0)
      obtain ⟨N, hN⟩ : ∃ N, xs.length + 2 = 4 * N := ⟨(xs.length + 2) / 4, by have h1 := HXN.out; have h2 := HT4.out.2; have h3 := hc16.out; omega⟩
      obtain ⟨zs, hzs⟩ : ∃ zs, xs ++ [(s.size : Int), 0] = zs := ⟨_, rfl⟩
      have hzn : zs.length = 4 * N := by rw [← hzs, List.length_append]; exact hN
      have hO : OwnsW wr.heap.size v' zs w2 := by
        unfold OwnsW
        rw [show wCells zs = wCells xs ++ [.int .u32 (s.size : Int), .int .u32 0] by rw [← hzs]; simp [wCells], hzn, ← hN]
        exact hown'
      have HZ : Hid (allWs s.data.toList = zs) := by show _ = _; rw [HA.out, hzs]
      have HXO : Hid (allW zs) := by
        show allW zs
        rw [← HZ.out]
        exact allWs_ok s.data.toList (by rw [len_listH]; omega)
      obtain ⟨p, cap, g, rfl, hcap, hmx, hg⟩ := hO.form
      have hN0 : 0 < N := by omega
      obtain ⟨rfl, hgb, hgl, hgc⟩ := hg (by omega)
      have HGC := Lib.hid hgc
      have HGN := Lib.hid (show w2.heap[g]? ≠ none by rw [Array.getElem?_eq_getElem hgl]; simp)
      have HZN := Lib.hid hzn
      have hN1 : N ≤ 100000 := by omega
      unfold maxLen at hmx
      rw [hzn] at hcap ⊢
      clear hown hownr hown' hgrow hV hR1 hB1 hzs hO hgc hg HA hN HXN hzn
      have hA3 : Arr .u32 23 w2.heap.size oneS.toL (w2.alloc (.cells #[.int .u32 1, .int .u32 0, .int .u32 0, .int .u32 0, .int .u32 0, .int .u32 0, .int .u32 0, .int .u32 0] 23)) := heap_alloc_new w2 _
      have hR3 := hR2.al (.cells #[.int .u32 1, .int .u32 0, .int .u32 0, .int .u32 0, .int .u32 0, .int .u32 0, .int .u32 0, .int .u32 0] 23)
      have hB3 := hB2.alloc hB2.size (.cells #[.int .u32 1, .int .u32 0, .int .u32 0, .int .u32 0, .int .u32 0, .int .u32 0, .int .u32 0, .int .u32 0] 23)
      have HH3 : Hid ((w2.alloc (.cells #[.int .u32 1, .int .u32 0, .int .u32 0, .int .u32 0, .int .u32 0, .int .u32 0, .int .u32 0, .int .u32 0] 23)).heap[g]? = w2.heap[g]?) := Below.heap_alloc w2 _ g hgl
      have hng : w2.heap.size ≠ g := (Nat.ne_of_lt hgl).symm
      have hnr : w.heap.size ≠ w2.heap.size := Nat.ne_of_lt hR2.lt
      have hle := hB2.size
      clear hR2 hB2
      go_wp2_with fail
      generalize w2.alloc (.cells #[.int .u32 1, .int .u32 0, .int .u32 0, .int .u32 0, .int .u32 0, .int .u32 0, .int .u32 0, .int .u32 0] 23) = w3 at *
      generalize w2.heap.size = E at *
      go_loopw [7] (fun i wr => ∃ (j : Nat) (x : S8), j ≤ N ∧ i = .int .i64 (4 * (j : Int)) ∧ Hid (wr.heap[g]? = w2.heap[g]?) ∧ x.ok ∧ Hid (absorb x (zs.drop (4 * j)) = absorb oneS zs) ∧ Arr .u32 23 E x.toL wr ∧ Arr .u32 29 w.heap.size [0, 0, 0, 0] wr ∧ Below w.heap.size w wr) (fun i _ => 4 * N - (intOf i).toNat)
      case atStart => exact ⟨0, oneS, by omega, rfl, HH3.out, oneS_ok, rfl, hA3, hR3, hB3⟩
      case round =>
        clear hA3 hR3 hB3 HH3
        obtain ⟨j, x, hj, rfl, HH, hx, HX, hA, hR, hB⟩ := hrel
        by_cases hlt : j < N
        · have hlen : 4 * j + 4 ≤ zs.length := by have := HZN.out; omega
          have HD := Lib.hid (drop_four zs j hlen)
          have cl : ∀ k, k < zs.length → wr.cell? ⟨g, k, none⟩ = some (.int .u32 (zs.getD k 0)) := fun k hk => by
            rw [World.cell?_of_block (w := w2) HH.out]
            exact HGC.out k hk
          have k0 := cl (4 * j) (by omega)
          have k1 := cl (4 * j + 1) (by omega)
          have k2 := cl (4 * j + 2) (by omega)
          have k3 := cl (4 * j + 3) (by omega)
          have hd : (⟨zs.getD (4 * j) 0, zs.getD (4 * j + 1) 0, zs.getD (4 * j + 2) 0, zs.getD (4 * j + 3) 0⟩ : D4).ok := ⟨(allW.get HXO.out _), (allW.get HXO.out _), (allW.get HXO.out _), (allW.get HXO.out _)⟩
          generalize zs.getD (4 * j) 0 = d0 at *
          generalize zs.getD (4 * j + 1) 0 = d1 at *
          generalize zs.getD (4 * j + 2) 0 = d2 at *
          generalize zs.getD (4 * j + 3) 0 = d3 at *
          clear cl
          have hgd : g < wr.heap.size := by
            rcases Nat.lt_or_ge g wr.heap.size with q | q
            · exact q
            · have e := HH.out
              rw [Array.getElem?_eq_none q] at e
              exact absurd e.symm HGN.out
          obtain ⟨t0, t1, t2, t3, t4, t5, t6, t7⟩ := hA.c8
          have hbd : decide (4 * (j : Int) < ((4 * N : Nat) : Int)) = true := by simp; omega
          have q0 : (0 : Int) ≤ 4 * (j : Int) := by omega
          have q1 : (0 : Int) ≤ 4 * (j : Int) + 1 := by omega
          have q2 : (0 : Int) ≤ 4 * (j : Int) + 2 := by omega
          have q3 : (0 : Int) ≤ 4 * (j : Int) + 3 := by omega
          have p0 : 4 * (j : Int) < 4 * (N : Int) := by omega
          have p1 : 4 * (j : Int) + 1 < 4 * (N : Int) := by omega
          have p2 : 4 * (j : Int) + 2 < 4 * (N : Int) := by omega
          have p3 : 4 * (j : Int) + 3 < 4 * (N : Int) := by omega
          have r0 : (4 * (j : Int)).toNat = 4 * j := by omega
          have r1 : (4 * (j : Int) + 1).toNat = 4 * j + 1 := by omega
          have r2 : (4 * (j : Int) + 2).toNat = 4 * j + 2 := by omega
          have r3 : (4 * (j : Int) + 3).toNat = 4 * j + 3 := by omega
          have e1 : IntKind.i64.wrap (4 * (j : Int) + 1) = 4 * (j : Int) + 1 := IntWalk.i64_in _ (by omega)
          have e2 : IntKind.i64.wrap (4 * (j : Int) + 2) = 4 * (j : Int) + 2 := IntWalk.i64_in _ (by omega)
          have e3 : IntKind.i64.wrap (4 * (j : Int) + 3) = 4 * (j : Int) + 3 := IntWalk.i64_in _ (by omega)
          go_wp2_with fail
          go_still_tail 21, (by kernel_rfl)
          change wpList _ _ _ _ _ wr.drew
          clear e1 e2 e3 r0 r1 r2 r3 p1 p2 p3 q1 q2 q3 k0 k1 k2 k3 t0 t1 t2 t3 t4 t5 t6 t7
          obtain ⟨wd, hwd⟩ : ∃ wd, wr.drew = wd := ⟨_, rfl⟩
          have hAd : Arr .u32 23 E x.toL wd := by rw [← hwd]; exact hA
          have hRd : Arr .u32 29 w.heap.size [0, 0, 0, 0] wd := by rw [← hwd]; exact hR
          have hBd : Below w.heap.size w wd := by rw [← hwd]; exact hB.drew
          have HHd : Hid (wd.heap[g]? = w2.heap[g]?) := by show _ = _; rw [← hwd]; exact HH.out
          have hgd2 : g < wd.heap.size := by rw [← hwd]; exact hgd
          rw [hwd]
          clear hwd hA hR hB HH hbd hgd
          obtain ⟨y, hy⟩ : ∃ y, takeS x ⟨d0, d1, d2, d3⟩ = y := ⟨_, rfl⟩
          have hyo : y.ok := by rw [← hy]; exact takeS_ok hx hd
          have HY : Hid (absorb y (zs.drop (4 * (j + 1))) = absorb oneS zs) := by
            show _ = _
            rw [← hy, ← HX.out, HD.out]
            exact (absorb_four x ⟨d0, d1, d2, d3⟩ _).symm
          have HCK := Lib.hid (rtake_named x y ⟨d0, d1, d2, d3⟩ wd hx hd hy)
          clear hy HX
          go_wp2_with fail
          refine (HCK.out).mono ?_
          rintro e w5 ⟨rfl, hC⟩
          clear HCK
          have hA2 := hAd.on hC
          have hR2 := hRd.on hC
          have hB2 := hBd.trans (hC.mono hBd.size)
          have HH2 : Hid (w5.heap[g]? = w2.heap[g]?) := by show _ = _; rw [hC.block g hgd2]; exact HHd.out
          clear hAd hRd hBd HHd hC hgd2
          obtain ⟨t0, t1, t2, t3, t4, t5, t6, t7⟩ := hA2.c8
          obtain ⟨f0, f1, f2, f3, f4, f5, f6, f7⟩ := hA2.f8
          have hA3 := put8 (y := y) hA2 rfl
          have hR3 := far8 hR2 hnr y
          have hB3 := below_put8 hB2 hle y
          have HH3 : Hid (((((((((w5.setCell ⟨E, 0, none⟩ (.int .u32 y.x0)).setCell ⟨E, 1, none⟩ (.int .u32 y.x1)).setCell ⟨E, 2, none⟩ (.int .u32 y.x2)).setCell ⟨E, 3, none⟩ (.int .u32 y.x3)).setCell ⟨E, 4, none⟩ (.int .u32 y.x4)).setCell ⟨E, 5, none⟩ (.int .u32 y.x5)).setCell ⟨E, 6, none⟩ (.int .u32 y.x6)).setCell ⟨E, 7, none⟩ (.int .u32 y.x7)).heap[g]? = w2.heap[g]?) := by
            show _ = _
            rw [heap_setCell_other _ _ _ _ hng.symm, heap_setCell_other _ _ _ _ hng.symm, heap_setCell_other _ _ _ _ hng.symm, heap_setCell_other _ _ _ _ hng.symm, heap_setCell_other _ _ _ _ hng.symm, heap_setCell_other _ _ _ _ hng.symm, heap_setCell_other _ _ _ _ hng.symm, heap_setCell_other _ _ _ _ hng.symm]
            exact HH2.out
          clear hA2 hR2 hB2 HH2
          go_wp2_with fail
          go_roundw
          case rel => exact ⟨j + 1, y, by omega, congrArg (Value.int .i64) (by omega), HH3, hyo, HY, hA3, hR3, hB3⟩
          case measure => simp [intOf]; omega
        · have hjN : j = N := by omega
          subst hjN
          have HE : Hid (ofD s.data.toList = frontS x) := by
            show _ = _
            rw [ofD, HZ.out, ← HX.out, List.drop_eq_nil_of_le (by have := HZN.out; omega), absorb_nil]
          clear HX HH
          have hbd : decide (4 * (j : Int) < ((4 * j : Nat) : Int)) = false := by simp
          have hbe : ((4 * j : Nat) : Int) ≤ 4 * (j : Int) := by omega
          obtain ⟨t0, t1, t2, t3, _, _, _, _⟩ := hA.c8
          obtain ⟨b0, b1, b2, b3⟩ := Arr.c4 (d := zeroD) hR
          obtain ⟨f0, f1, f2, f3⟩ := hR.f4
          have hRf := put4 (d := frontS x) hR rfl
          have hBf := below_put4 hB (Nat.le_refl _) (frontS x)
          clear hA hR hB
          go_wp2_with fail
          simp only [frontS] at hRf hBf
          generalize (((wr.setCell ⟨w.heap.size, 0, none⟩ (.int .u32 x.x0)).setCell ⟨w.heap.size, 1, none⟩ (.int .u32 x.x1)).setCell ⟨w.heap.size, 2, none⟩ (.int .u32 x.x2)).setCell ⟨w.heap.size, 3, none⟩ (.int .u32 x.x3) = wf at *
          obtain ⟨r0, r1, r2, r3⟩ := Arr.c4 (d := ⟨x.x0, x.x1, x.x2, x.x3⟩) hRf
          simp only at r0 r1 r2 r3
          refine bodyPost_ret (v := (frontS x).val) (by simp [results, Tryd.results17, go_sem, D4.val, frontS, r0, r1, r2, r3]) rfl ⟨by rw [HE.out], hBf⟩
end Go.Proofs.YtepcpjppogcjbaaDoor
