/-
  The walks of the laws DigestOf and DigestSponge.
-/
import Derived.Test.YtepcpjppogcjbaaDoorDgF
import Derived.Test.YtepcpjppogcjbaaDoorDgT
import Derived.Test.YtepcpjppogcjbaaDoorDgM2
import Derived.Test.YtepcpjppogcjbaaDoorDgO2
import Derived.Test.YtepcpjppogcjbaaDoorDgHB
import Derived.Test.YtepcpjppogcjbaaDoorDgSP
import Derived.Lib.AtoiErrMem
namespace Go.Proofs.YtepcpjppogcjbaaDoor
open Go.RowKit

theorem ofC (s : ByteArray) (y : S8) (w : World) (hs : s.size ≤ 100000) (hL : DgOk w) (hy : ofD s.data.toList = frontS y) : Calls Tryd.prog 16 #[.string s] w fun e w' => e = .returned (.agg #[.int .u32 y.x0, .int .u32 y.x1, .int .u32 y.x2, .int .u32 y.x3]) ∧ Below w.heap.size w w' := by
  have h := cof_any s w hs hL.1
  rw [hy] at h
  exact h
theorem ofR (s : ByteArray) (y : S8) (w : World) (hs : s.size ≤ 100000) (hy : ofD s.data.toList = frontS y) : Calls Tryd.prog 17 #[.string s] w fun e w' => e = .returned (.agg #[.int .u32 y.x0, .int .u32 y.x1, .int .u32 y.x2, .int .u32 y.x3]) ∧ Below w.heap.size w w' := by
  have h := rof_any s w hs
  rw [hy] at h
  exact h
theorem of3_long (s : ByteArray) (w : World) (hL : DgOk w) (hl : 300 < s.size) : Calls Tryd.prog 5 #[.string s] w fun e w' => e = .returned (.bool true) ∧ Below w.heap.size w w' := by
  have HL := Lib.hid hL
  have h1 : (300 : Int) < s.size := by omega
  clear hL
  go_enter Tryd.func5, Tryd.ntmps5
  go_wp2_with fail
  refine (awakeD_any w HL.out).mono ?_
  rintro e w1 ⟨rfl, hB⟩
  go_wp2_with fail
  go_ret
  exact ⟨rfl, hB⟩
set_option maxHeartbeats 4000000 in
theorem of3_short (s : ByteArray) (w : World) (hL : DgOk w) (hl : s.size ≤ 300) : Calls Tryd.prog 5 #[.string s] w fun e w' => e = .returned (.bool true) ∧ Below w.heap.size w w' := by
  have HL := Lib.hid hL
  have h1 : (s.size : Int) ≤ 300 := by omega
  have HS := Lib.hid (show s.size ≤ 100000 by omega)
  obtain ⟨y, hy⟩ : ∃ y, absorb oneS (allWs s.data.toList) = y := ⟨_, rfl⟩
  have HY : Hid (ofD s.data.toList = frontS y) := by show _ = _; rw [ofD, hy]
  clear hL hl hy
  have hE := eqD_yes (frontS y)
  simp only [frontS] at hE
  go_enter Tryd.func5, Tryd.ntmps5
  go_wp2_with fail
  refine (awakeD_any w HL.out).mono ?_
  rintro e w1 ⟨rfl, hB⟩
  go_wp2_with fail
  refine (ofC s y w1 HS.out (HL.out.below hB) HY.out).mono ?_
  rintro e w2 ⟨rfl, hB2⟩
  go_wp2_with fail
  refine (ofR s y w2 HS.out HY.out).mono ?_
  rintro e w3 ⟨rfl, hB3⟩
  have hW := hB.trans ((hB2.trans (hB3.mono hB2.size)).mono hB.size)
  clear hB hB2 hB3
  go_wp2_with fail
  go_ret
  exact ⟨rfl, hW⟩
theorem of3_any (s : ByteArray) (w : World) (hL : DgOk w) : Calls Tryd.prog 5 #[.string s] w fun e w' => e = .returned (.bool true) ∧ Below w.heap.size w w' := by
  by_cases h : 300 < s.size
  · exact of3_long s w hL h
  · exact of3_short s w hL (by omega)

theorem sponge_long (s : ByteArray) (w : World) (hL : DgOk w) (hl : 300 < s.size) : Calls Tryd.prog 9 #[.string s] w fun e w' => e = .returned (.bool true) ∧ Below w.heap.size w w' := by
  have HL := Lib.hid hL
  have h1 : (300 : Int) < s.size := by omega
  clear hL
  go_enter Tryd.func9, Tryd.ntmps9
  go_wp2_with fail
  refine (awakeD_any w HL.out).mono ?_
  rintro e w1 ⟨rfl, hB⟩
  go_wp2_with fail
  go_ret
  exact ⟨rfl, hB⟩

set_option maxHeartbeats 4000000 in
set_option maxRecDepth 100000 in
theorem sponge_short (s : ByteArray) (w : World) (hL : DgOk w) (hl : s.size ≤ 300) : Calls Tryd.prog 9 #[.string s] w fun e w' => e = .returned (.bool true) ∧ Below w.heap.size w w' := by
  have HL := Lib.hid hL
  have h1 : (s.size : Int) ≤ 300 := by omega
  have HS := Lib.hid (show s.size ≤ 100000 by omega)
  have hpn := pad_mod s.size
  have hpz := padN_lt s.size
  have HPN := Lib.hid hpn
  have HPD : Hid (padN s.size = (23 - s.size % 16) % 16) := rfl
  clear hpn hL
  obtain ⟨u, hu⟩ : ∃ u, s ++ (⟨#[128]⟩ : ByteArray) = u := ⟨_, rfl⟩
  have hul : u.data.toList = s.data.toList ++ padK 0 := by rw [← hu, ByteArray.data_append, Array.toList_append]; rfl
  have hus : u.size = s.size + 1 := by rw [← hu, ByteArray.size_append]; rfl
  have hadd := fun W => run_string_add_sum (P := Tryd.prog) (w := W) s ⟨#[128]⟩ (by show s.size + 1 ≤ _; omega)
  rw [hu] at hadd
  have hcv := Lib.run_convert_string_bytes (P := Tryd.prog) w 9 39 5 u Tryd.underlying9 Tryd.underlying39 Tryd.underlying5
  have hH0 := HasB.start w u (by rw [hus]; unfold maxLen; omega)
  have hB0 := Lib.bytesWorld_below w 5 u
  rw [hul] at hH0
  generalize Lib.bytesWorld w 5 u = w1 at *
  rw [hus] at hcv hH0
  generalize grownCap w (s.size + 1) 0 5 = cap0 at *
  clear hul hu hus
  go_enter Tryd.func9, Tryd.ntmps9
  go_wp2_with fail
  clear hadd hcv
  go_loopg [4] (padN s.size) (fun gk v wr => ∃ k : Nat, k + gk = padN s.size ∧ HasB w.heap.size v (s.data.toList ++ padK k) wr ∧ Below w.heap.size w wr)
  case atStart => exact ⟨0, by omega, hH0, hB0⟩
  case round =>
    clear hH0 hB0
    obtain ⟨k, hk, hH, hB⟩ := hrel
    have HH := Lib.hid hH
    obtain ⟨g, cap, hv, hg1, hg2, hg3, hg4, hg5, hg6⟩ := hH
    obtain ⟨m, hm⟩ : ∃ m, (s.data.toList ++ padK k).length = m := ⟨_, rfl⟩
    have hmk : m = s.size + 1 + k := by rw [← hm, List.length_append, padK_len, len_listH]; omega
    rw [hm] at hv
    subst hv
    have HMK := Lib.hid hmk
    clear hg1 hg2 hg3 hg5 hg6
    unfold maxLen at hg4
    by_cases hg : 0 < gk
    · have hc : ((m : Int) % 16 != 8) = true := by
        have := HPD.out
        simp; omega
      have hm1 : m ≤ 1000 := by omega
      clear hmk
      obtain ⟨v', w', hr, hH2, hB2⟩ := (HH.out.on ((Below.refl _ wr).alloc (Nat.le_refl _) (.cells #[.int .u8 0] 5))).append [0] ⟨wr.heap.size, 0, none⟩ 1 (fun j u hu => World.news_of_block (cs := #[.int .u8 0]) (t := 5) (fr := (0, 0)) (heap_alloc_new wr _) j u (by simpa [Lib.byteCells] using hu)) (by rw [hm]; show m + 1 ≤ _; omega) (by have := hB.size; simp; omega) 39
      have hB3 := (hB.alloc hB.size (.cells #[.int .u8 0] 5)).trans hB2
      rw [List.append_assoc, show padK k ++ [0] = padK (k + 1) by simp [padK, List.replicate_succ']] at hH2
      rw [show ([0] : List UInt8).length = 1 from rfl] at hr
      have HH2 := Lib.hid hH2
      clear hB2 HH hm hH2
      have HR := Lib.hid hr
      clear hr
      go_wp2_with (at_builtin; refine wpList_append_eq rfl _ _ 39 rfl _ _ v' w' rfl rfl HR.out ?_)
      go_roundg (gk - 1)
      case measure => omega
      case rel => exact ⟨k + 1, by omega, HH2.out, hB3⟩
    · have hkn : k = padN s.size := by omega
      subst hkn
      have hc : ((m : Int) % 16 != 8) = false := by
        have := HPN.out
        simp; omega
      have hm1 : m ≤ 1000 := by omega
      clear hmk
      obtain ⟨c0, hc0⟩ : ∃ c : UInt8, (s.size : Int) % 256 = (c.toNat : Int) := ⟨UInt8.ofNat (s.size % 256), by rw [UInt8.toNat_ofNat', Nat.mod_eq_of_lt (by omega)]; omega⟩
      obtain ⟨c1, hc1⟩ : ∃ c : UInt8, (s.size : Int) / 256 = (c.toNat : Int) := ⟨UInt8.ofNat (s.size / 256), by rw [UInt8.toNat_ofNat', Nat.mod_eq_of_lt (by omega)]; omega⟩
      have HNB := Lib.hid (num_bytes s.size (by omega) c0 c1 hc0 hc1)
      obtain ⟨v', w', hr, hH2, hB2⟩ := (HH.out.on ((Below.refl _ wr).alloc (Nat.le_refl _) (.cells #[.int .u8 (c0.toNat : Int), .int .u8 (c1.toNat : Int), .int .u8 0, .int .u8 0, .int .u8 0, .int .u8 0, .int .u8 0, .int .u8 0] 5))).append [c0, c1, 0, 0, 0, 0, 0, 0] ⟨wr.heap.size, 0, none⟩ 8 (fun j u hu => World.news_of_block (cs := #[.int .u8 (c0.toNat : Int), .int .u8 (c1.toNat : Int), .int .u8 0, .int .u8 0, .int .u8 0, .int .u8 0, .int .u8 0, .int .u8 0]) (t := 5) (fr := (0, 0)) (heap_alloc_new wr _) j u (by simpa [Lib.byteCells] using hu)) (by rw [hm]; show m + 8 ≤ _; omega) (by have := hB.size; simp; omega) 39
      have hB3 := (hB.alloc hB.size (.cells #[.int .u8 (c0.toNat : Int), .int .u8 (c1.toNat : Int), .int .u8 0, .int .u8 0, .int .u8 0, .int .u8 0, .int .u8 0, .int .u8 0] 5)).trans hB2
      have HAL : Hid (s.data.toList ++ padK (padN s.size) ++ [c0, c1, 0, 0, 0, 0, 0, 0] = allB s.data.toList) := by
        show _ = _
        rw [← HNB.out, allB, len_listH]; rfl
      rw [HAL.out] at hH2
      rw [show ([c0, c1, 0, 0, 0, 0, 0, 0] : List UInt8).length = 8 from rfl] at hr
      have hLB := allB_len s.data.toList
      rw [len_listH] at hLB
      obtain ⟨N, hN⟩ : ∃ N, (allB s.data.toList).length = 16 * N := ⟨(allB s.data.toList).length / 16, by have := HPN.out; omega⟩
      have hN1 : N ≤ 100 := by omega
      have HO : Hid (absorb oneS (wordsR (allB s.data.toList)) = absorb oneS (allWs s.data.toList)) := by
        show _ = _
        rw [allB_words _ (by rw [len_listH]; omega)]
      obtain ⟨g', cap', rfl, q1, q2, q3, q4, q5, q6⟩ := hH2
      rw [hN] at hr q5
      have HN := Lib.hid hN
      have HQ := Lib.hid q5
      unfold maxLen at q4
      clear q6 hB2 HH hm HAL HNB hLB q3 q5 hN hB hg
      have hA3 : Arr .u32 23 w'.heap.size oneS.toL (w'.alloc (.cells #[.int .u32 1, .int .u32 0, .int .u32 0, .int .u32 0, .int .u32 0, .int .u32 0, .int .u32 0, .int .u32 0] 23)) := heap_alloc_new w' _
      have hB4 := hB3.alloc hB3.size (.cells #[.int .u32 1, .int .u32 0, .int .u32 0, .int .u32 0, .int .u32 0, .int .u32 0, .int .u32 0, .int .u32 0] 23)
      have HH3 : Hid ((w'.alloc (.cells #[.int .u32 1, .int .u32 0, .int .u32 0, .int .u32 0, .int .u32 0, .int .u32 0, .int .u32 0, .int .u32 0] 23)).heap[g']? = w'.heap[g']?) := Below.heap_alloc w' _ g' q2
      have HGN := Lib.hid (show w'.heap[g']? ≠ none by rw [Array.getElem?_eq_getElem q2]; simp)
      have hng : w'.heap.size ≠ g' := (Nat.ne_of_lt q2).symm
      have hle := hB3.size
      have HR := Lib.hid hr
      clear hB3 hr
      go_wp2_with (at_builtin; refine wpList_append_eq rfl _ _ 39 rfl _ _ _ w' rfl rfl HR.out ?_)
      generalize w'.alloc (.cells #[.int .u32 1, .int .u32 0, .int .u32 0, .int .u32 0, .int .u32 0, .int .u32 0, .int .u32 0, .int .u32 0] 23) = w3 at *
      generalize w'.heap.size = E at *
      obtain ⟨L, hLL⟩ : ∃ L, allB s.data.toList = L := ⟨_, rfl⟩
      rw [hLL] at HN HQ HO
      clear hLL
      go_loopw [6] (fun i wr => ∃ (j : Nat) (x : S8), j ≤ N ∧ i = .int .i64 (16 * (j : Int)) ∧ Hid (wr.heap[g']? = w'.heap[g']?) ∧ x.ok ∧ Hid (absorb x (wordsR (L.drop (16 * j))) = absorb oneS (allWs s.data.toList)) ∧ Arr .u32 23 E x.toL wr ∧ Below w.heap.size w wr) (fun i _ => 16 * N - (intOf i).toNat)
      case atStart => exact ⟨0, oneS, by omega, rfl, HH3.out, oneS_ok, by show _ = _; rw [Nat.mul_zero, List.drop_zero]; exact HO.out, hA3, hB4⟩
      case round =>
        clear hA3 hB4 HH3
        obtain ⟨j, x, hj, rfl, HH, hx, HX, hA, hB⟩ := hrel
        by_cases hlt : j < N
        · have hbd : decide (16 * (j : Int) < 16 * (N : Int)) = true := by simp; omega
          have hgw : g' < wr.heap.size := by
            rcases Nat.lt_or_ge g' wr.heap.size with q | q
            · exact q
            · have e := HH.out
              rw [Array.getElem?_eq_none q] at e
              exact absurd e.symm HGN.out
          have hG0 : Arr .u32 28 wr.heap.size (ldL L (16 * j) 0) (wr.alloc (.cells #[.int .u32 0, .int .u32 0, .int .u32 0, .int .u32 0] 28)) := heap_alloc_new wr _
          have hA1 := hA.al (.cells #[.int .u32 0, .int .u32 0, .int .u32 0, .int .u32 0] 28)
          have hB1 := hB.alloc hB.size (.cells #[.int .u32 0, .int .u32 0, .int .u32 0, .int .u32 0] 28)
          have HH1 : Hid ((wr.alloc (.cells #[.int .u32 0, .int .u32 0, .int .u32 0, .int .u32 0] 28)).heap[g']? = w'.heap[g']?) := by show _ = _; rw [Below.heap_alloc wr _ g' hgw]; exact HH.out
          have n1 : E ≠ wr.heap.size := Nat.ne_of_lt hA.lt
          have n2 : wr.heap.size ≠ g' := (Nat.ne_of_lt hgw).symm
          have n3 := hB.size
          clear hA hB HH hgw
          go_wp2_with fail
          clear hbd
          generalize wr.alloc (.cells #[.int .u32 0, .int .u32 0, .int .u32 0, .int .u32 0] 28) = w5 at *
          generalize wr.heap.size = G at *
          go_loopw [8] (fun i wi => ∃ k : Nat, k ≤ 16 ∧ i = .int .i64 k ∧ Arr .u32 28 G (ldL L (16 * j) k) wi ∧ Hid (wi.heap[g']? = w'.heap[g']?) ∧ Arr .u32 23 E x.toL wi ∧ Below w.heap.size w wi) (fun i _ => 16 - (intOf i).toNat)
          case atStart => exact ⟨0, by omega, rfl, hG0, HH1, hA1, hB1⟩
          case round =>
            clear hG0 HH1 hA1 hB1
            obtain ⟨k, hk, rfl, hG, HH, hA, hB⟩ := hrel
            by_cases hk16 : k < 16
            · have hkd : decide ((k : Int) < 16) = true := by simp; omega
              obtain ⟨q, hq⟩ : ∃ q, k / 4 = q := ⟨_, rfl⟩
              obtain ⟨r, hr⟩ : ∃ r, k % 4 = r := ⟨_, rfl⟩
              have hcb : wr.cell? ⟨g', 16 * j + k, none⟩ = some (.int .u8 ((L.getD (16 * j + k) 0).toNat : Int)) := by
                rw [World.cell?_of_block (w := w') HH.out]
                exact HQ.out _ (by omega)
              obtain ⟨c, hc⟩ : ∃ c, L.getD (16 * j + k) 0 = c := ⟨_, rfl⟩
              rw [hc] at hcb
              have hcl := c.toNat_lt
              have hr4 : r < 4 := by omega
              have hkq : k = 4 * q + r := by omega
              have HO1 := Lib.hid (or_wv L (16 * j) q r hr4 c.toNat hcl (by rw [← hkq, hc]))
              have HN1 := Lib.hid (ldL_next L (16 * j) hk16)
              have hcw : wr.cell? ⟨G, q, none⟩ = some (.int .u32 ((wv L (16 * j) q r : Nat) : Int)) := by
                rw [← hq, ← hr, ← ldL_at L (16 * j) hk16]
                exact hG.cell (by rw [ldL_len]; omega)
              rw [hq, hr] at HN1
              have hww := wv_word L (16 * j) q r (by omega)
              have hw0 := hww.1
              have hw1 := hww.2
              have hf := hG.fz q
              have hGs := hG.set q ((wv L (16 * j) q (r + 1) : Nat) : Int)
              rw [HN1.out] at hGs
              generalize ((wv L (16 * j) q r : Nat) : Int) = a at *
              generalize ((wv L (16 * j) q (r + 1) : Nat) : Int) = b at *
              have hk0 : (0 : Int) ≤ k := by omega
              have e1 : (k : Int).tdiv 4 = (q : Int) := by rw [Int.tdiv_eq_ediv_of_nonneg (by omega)]; omega
              have e1' : (k : Int) / 4 = (q : Int) := by omega
              have e2 : IntKind.i64.wrap (q : Int) = (q : Int) := IntWalk.i64_in _ (by omega)
              have e3 : (0 : Int) ≤ (q : Int) := by omega
              have e4 : (q : Int) < 4 := by omega
              have e5 : (q : Int).toNat = q := by omega
              have s1 : IntKind.i64.wrap (16 * (j : Int) + (k : Int)) = 16 * (j : Int) + (k : Int) := IntWalk.i64_in _ (by omega)
              have s2 : (0 : Int) ≤ 16 * (j : Int) + (k : Int) := by omega
              have s3 : 16 * (j : Int) + (k : Int) < 16 * (N : Int) := by omega
              have s4 : (16 * (j : Int) + (k : Int)).toNat = 16 * j + k := by omega
              have m1 : (k : Int).tmod 4 = (r : Int) := by rw [Int.tmod_eq_emod_of_nonneg (by omega)]; omega
              have m1' : (k : Int) % 4 = (r : Int) := by omega
              clear hkq hq hr hc hww HN1
              have hrr : r = 0 ∨ r = 1 ∨ r = 2 ∨ r = 3 := by omega
              have hG1 : Arr .u32 28 G (ldL L (16 * j) (k + 1)) (wr.setCell ⟨G, q, none⟩ (.int .u32 b)).drew := hGs
              have hA1 : Arr .u32 23 E x.toL (wr.setCell ⟨G, q, none⟩ (.int .u32 b)).drew := hA.far (a := ⟨G, q, none⟩) n1 _
              have hB1 : Below w.heap.size w (wr.setCell ⟨G, q, none⟩ (.int .u32 b)).drew := (hB.setCell (p := ⟨G, q, none⟩) n3 _).drew
              have HH1 : Hid ((wr.setCell ⟨G, q, none⟩ (.int .u32 b)).drew.heap[g']? = w'.heap[g']?) := by
                show (wr.setCell ⟨G, q, none⟩ (.int .u32 b)).heap[g']? = _
                rw [heap_setCell_other _ _ _ _ n2.symm]
                exact HH.out
              clear hG hA hB HH hGs
              rcases hrr with rfl | rfl | rfl | rfl
              · have hv : bits .or .u32 a ((c.toNat : Int)) = b := by
                  rw [← HO1.out]
                  congr 1
                  rw [Nat.pow_zero, Nat.mul_one]
                go_wp2_with fail
                go_region
                go_wp2_with fail
                go_roundw
                case rel => exact ⟨k + 1, by omega, by go_num, hG1, HH1, hA1, hB1⟩
                case measure => simp [intOf]; omega
              · have hv : bits .or .u32 a ((c.toNat : Int) * 256) = b := by
                  rw [← HO1.out]
                  congr 1
                go_wp2_with fail
                go_region
                go_wp2_with fail
                go_roundw
                case rel => exact ⟨k + 1, by omega, by go_num, hG1, HH1, hA1, hB1⟩
                case measure => simp [intOf]; omega
              · have hv : bits .or .u32 a ((c.toNat : Int) * 65536) = b := by
                  rw [← HO1.out]
                  congr 1
                go_wp2_with fail
                go_region
                go_wp2_with fail
                go_roundw
                case rel => exact ⟨k + 1, by omega, by go_num, hG1, HH1, hA1, hB1⟩
                case measure => simp [intOf]; omega
              · have hv : bits .or .u32 a ((c.toNat : Int) * 16777216) = b := by
                  rw [← HO1.out]
                  congr 1
                go_wp2_with fail
                go_region
                go_wp2_with fail
                go_roundw
                case rel => exact ⟨k + 1, by omega, by go_num, hG1, HH1, hA1, hB1⟩
                case measure => simp [intOf]; omega
            · have hk16 : k = 16 := by omega
              subst hk16
              have HW := Lib.hid (words_block L (16 * j) (by have := HN.out; omega))
              obtain ⟨d, hd⟩ : ∃ d, four (L.drop (16 * j)) = d := ⟨_, rfl⟩
              have hdo : d.ok := by rw [← hd]; exact four_ok _
              rw [ldL_full, hd] at hG
              rw [hd] at HW
              clear hd
              obtain ⟨y, hy⟩ : ∃ y, takeS x d = y := ⟨_, rfl⟩
              have hyo : y.ok := by rw [← hy]; exact takeS_ok hx hdo
              have HY : Hid (absorb y (wordsR (L.drop (16 * (j + 1)))) = absorb oneS (allWs s.data.toList)) := by
                show _ = _
                rw [← HX.out, HW.out, absorb_four, hy, Nat.mul_add, Nat.mul_one]
              have HYY := Lib.hid hy
              clear hy HX HW
              obtain ⟨t0, t1, t2, t3, t4, t5, t6, t7⟩ := hA.c8
              obtain ⟨d0, d1, d2, d3⟩ := hG.c4
              have HLr := Lib.hid (HL.out.below hB)
              have hgw : g' < wr.heap.size := by
                rcases Nat.lt_or_ge g' wr.heap.size with q | q
                · exact q
                · have e := HH.out
                  rw [Array.getElem?_eq_none q] at e
                  exact absurd e.symm HGN.out
              go_wp2_with fail
              clear t0 t1 t2 t3 t4 t5 t6 t7 d0 d1 d2 d3
              refine (tookC x y d wr hx hdo HLr.out HYY.out).mono ?_
              rintro e w7 ⟨rfl, hC⟩
              have hA2 := hA.on hC
              have hB2 := hB.trans (hC.mono hB.size)
              have HH2 : Hid (w7.heap[g']? = w'.heap[g']?) := by show _ = _; rw [hC.block g' hgw]; exact HH.out
              clear hA hB HH hC hgw hG HLr
              obtain ⟨t0, t1, t2, t3, t4, t5, t6, t7⟩ := hA2.c8
              obtain ⟨f0, f1, f2, f3, f4, f5, f6, f7⟩ := hA2.f8
              have hA3 := put8 (y := y) hA2 rfl
              have hB3 := below_put8 hB2 hle y
              have HH3 : Hid (((((((((w7.setCell ⟨E, 0, none⟩ (.int .u32 y.x0)).setCell ⟨E, 1, none⟩ (.int .u32 y.x1)).setCell ⟨E, 2, none⟩ (.int .u32 y.x2)).setCell ⟨E, 3, none⟩ (.int .u32 y.x3)).setCell ⟨E, 4, none⟩ (.int .u32 y.x4)).setCell ⟨E, 5, none⟩ (.int .u32 y.x5)).setCell ⟨E, 6, none⟩ (.int .u32 y.x6)).setCell ⟨E, 7, none⟩ (.int .u32 y.x7)).heap[g']? = w'.heap[g']?) := by
                show _ = _
                rw [heap_setCell_other _ _ _ _ hng.symm, heap_setCell_other _ _ _ _ hng.symm, heap_setCell_other _ _ _ _ hng.symm, heap_setCell_other _ _ _ _ hng.symm, heap_setCell_other _ _ _ _ hng.symm, heap_setCell_other _ _ _ _ hng.symm, heap_setCell_other _ _ _ _ hng.symm, heap_setCell_other _ _ _ _ hng.symm]
                exact HH2.out
              clear hA2 hB2 HH2
              go_wp2_with fail
              go_roundw
              case rel => exact ⟨j + 1, y, by omega, congrArg (Value.int .i64) (by omega), HH3, hyo, HY, hA3, hB3⟩
              case measure => simp [intOf]; omega
        · have hjN : j = N := by omega
          subst hjN
          have HE : Hid (ofD s.data.toList = frontS x) := by
            show _ = _
            rw [ofD, ← HX.out, List.drop_eq_nil_of_le (by have := HN.out; omega)]
            show frontS (absorb x []) = _
            rw [absorb_nil]
          clear HX HH
          have hbd : decide (16 * (j : Int) < 16 * (j : Int)) = false := by simp
          have HLd : Hid (DgOk wr.drew) := HL.out.below hB.drew
          have hBd := hB.drew
          have HS0 := Lib.hid (show wr.drew.cell? ⟨E, 0, none⟩ = some (.int .u32 x.x0) ∧ wr.drew.cell? ⟨E, 1, none⟩ = some (.int .u32 x.x1) ∧ wr.drew.cell? ⟨E, 2, none⟩ = some (.int .u32 x.x2) ∧ wr.drew.cell? ⟨E, 3, none⟩ = some (.int .u32 x.x3) ∧ wr.drew.cell? ⟨E, 4, none⟩ = some (.int .u32 x.x4) ∧ wr.drew.cell? ⟨E, 5, none⟩ = some (.int .u32 x.x5) ∧ wr.drew.cell? ⟨E, 6, none⟩ = some (.int .u32 x.x6) ∧ wr.drew.cell? ⟨E, 7, none⟩ = some (.int .u32 x.x7) from hA.c8)
          clear hA hB HL
          have hE1 := eqD_yes (frontS x)
          simp only [frontS] at hE1
          go_wp2_with fail
          obtain ⟨HL, hB⟩ := And.intro HLd hBd
          clear HLd hBd
          go_region_held3 (fun w' => w'.cell? ⟨E, 0, none⟩ = some (.int .u32 x.x0) ∧ w'.cell? ⟨E, 1, none⟩ = some (.int .u32 x.x1) ∧ w'.cell? ⟨E, 2, none⟩ = some (.int .u32 x.x2) ∧ w'.cell? ⟨E, 3, none⟩ = some (.int .u32 x.x3) ∧ w'.cell? ⟨E, 4, none⟩ = some (.int .u32 x.x4) ∧ w'.cell? ⟨E, 5, none⟩ = some (.int .u32 x.x5) ∧ w'.cell? ⟨E, 6, none⟩ = some (.int .u32 x.x6) ∧ w'.cell? ⟨E, 7, none⟩ = some (.int .u32 x.x7))
            (first | ((with_reducible refine keepS (s := x) hA ?_); assumption) | (with_reducible exact HS0.out))
            (first
              | (go_at_call 11; (with_reducible refine (awakeD_any _ HL.out).mono ?_); rintro e w' ⟨rfl, hA⟩; have HL := Lib.hid (HL.out.below hA); have hB := hB.trans (hA.mono hB.size))
              | (go_at_call 16; (with_reducible refine (ofC s x _ HS.out HL.out HE.out).mono ?_); rintro e w' ⟨rfl, hA⟩; have HL := Lib.hid (HL.out.below hA); have hB := hB.trans (hA.mono hB.size)))
          all_goals (go_wp2_with fail; go_ret; exact ⟨rfl, hB⟩)
theorem sponge_any (s : ByteArray) (w : World) (hL : DgOk w) : Calls Tryd.prog 9 #[.string s] w fun e w' => e = .returned (.bool true) ∧ Below w.heap.size w w' := by
  by_cases h : 300 < s.size
  · exact sponge_long s w hL h
  · exact sponge_short s w hL (by omega)

end Go.Proofs.YtepcpjppogcjbaaDoor
