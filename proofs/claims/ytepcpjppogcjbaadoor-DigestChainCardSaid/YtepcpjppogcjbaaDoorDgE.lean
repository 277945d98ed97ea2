/-
  The contracts of the document's Text and Parse of a digest.
-/
import Derived.Test.YtepcpjppogcjbaaDoorDgO
import Derived.Lib.ConvBytes
import Derived.BigRegion
import Derived.Lib.ItoaMem
namespace Go.Proofs.YtepcpjppogcjbaaDoor
open Go.RowKit

/-- A word's bytes, the highest one first. -/
def hi4 (x : Int) : List UInt8 := [byteN x.toNat 3, byteN x.toNat 2, byteN x.toNat 1, byteN x.toNat 0]
theorem hi4_rev {x : Int} : w4 (revW x) = hi4 x := by
  rw [revW, w4_fw]; rfl
theorem dB_hi (d : D4) : dB d = hi4 d.d0 ++ hi4 d.d1 ++ hi4 d.d2 ++ hi4 d.d3 := by
  rw [dB, swapD]
  simp only [D4.toL, wbytes_cons, wbytes_nil, hi4_rev, List.append_nil, List.append_assoc]
def hiP (D : List Int) : Nat → List UInt8
  | 0 => []
  | n + 1 => hiP D n ++ hi4 (D.getD n 0)
theorem hiP_len (D : List Int) (n : Nat) : (hiP D n).length = 4 * n := by
  induction n with
  | zero => rfl
  | succ n ih => rw [hiP, List.length_append, ih]; show 4 * n + 4 = _; omega
theorem hiP_list (d : D4) : hiP d.toL 4 = dB d := by
  rw [dB_hi]; simp [hiP, D4.toL]

/-- A literal of four bytes, as a string. -/
theorem conv4 (c3 c2 c1 c0 : UInt8) (wr : World) : Sem.run Tryd.prog (convert 39 9 (.slice (some ⟨wr.heap.size, 0, none⟩) 4 4)) (wr.alloc (.cells #[.int .u8 (c3.toNat : Int), .int .u8 (c2.toNat : Int), .int .u8 (c1.toNat : Int), .int .u8 (c0.toNat : Int)] 5)).drew = .ok (.string ⟨#[c3, c2, c1, c0]⟩) (wr.alloc (.cells #[.int .u8 (c3.toNat : Int), .int .u8 (c2.toNat : Int), .int .u8 (c1.toNat : Int), .int .u8 (c0.toNat : Int)] 5)).drew := by
  have hrow : ((wr.alloc (.cells #[.int .u8 (c3.toNat : Int), .int .u8 (c2.toNat : Int), .int .u8 (c1.toNat : Int), .int .u8 (c0.toNat : Int)] 5)).drew).heap[wr.heap.size]? = some (.cells #[.int .u8 (c3.toNat : Int), .int .u8 (c2.toNat : Int), .int .u8 (c1.toNat : Int), .int .u8 (c0.toNat : Int)] 5 (0, 0)) := heap_alloc_new wr _
  generalize (wr.alloc (.cells #[.int .u8 (c3.toNat : Int), .int .u8 (c2.toNat : Int), .int .u8 (c1.toNat : Int), .int .u8 (c0.toNat : Int)] 5)).drew = W at *
  exact run_convert_bytes_back (P := Tryd.prog) W 39 9 5 ⟨wr.heap.size, 0, none⟩ 4 [c3, c2, c1, c0] Tryd.underlying39 Tryd.underlying5 Tryd.underlying9 (fun j hj => by
    rw [Lib.add_plain, Nat.zero_add, cell_of_row W _ j _ _ (0, 0) hrow]
    match j, hj with
    | 0, _ => rfl
    | 1, _ => rfl
    | 2, _ => rfl
    | 3, _ => rfl)
set_option maxHeartbeats 3000000 in
set_option maxRecDepth 100000 in
theorem rtext_any (d : D4) (w : World) (hd : d.ok) : Calls Tryd.prog 22 #[d.val] w fun e w' => e = .returned (.string ⟨(dTextL d).toArray⟩) ∧ Below w.heap.size w w' := by
  obtain ⟨i0, hi, hz0, hz1, hz2⟩ := info_parts info_u8h
  obtain ⟨w0, hw0⟩ : ∃ w0, w.alloc (.cells #[.int .u32 d.d0, .int .u32 d.d1, .int .u32 d.d2, .int .u32 d.d3] 29) = w0 := ⟨_, rfl⟩
  have hA0 : Arr .u32 29 w.heap.size d.toL w0 := by rw [← hw0]; exact heap_alloc_new w _
  have hB0 : Below w.heap.size w w0 := by rw [← hw0]; exact (Below.refl _ _).alloc (Nat.le_refl _) _
  go_enter Tryd.func22, Tryd.ntmps22
  simp only [D4.val]
  go_wp2_with fail
  clear hw0
  go_loopw [3, 4] (fun v i wr => ∃ (k : Nat) (t : ByteArray), k ≤ 4 ∧ i = .int .i64 k ∧ v = .string t ∧ t.size = 4 * k ∧ Hid (t.data.toList = hiP d.toL k) ∧ Arr .u32 29 w.heap.size d.toL wr ∧ Below w.heap.size w wr) (fun _ i _ => 4 - (intOf i).toNat)
  case atStart => exact ⟨0, ⟨#[]⟩, by omega, rfl, rfl, rfl, rfl, hA0, hB0⟩
  case round =>
    clear hA0 hB0
    obtain ⟨k, t, hk, rfl, rfl, hts, HT, hA, hB⟩ := hrel
    by_cases hlt : k < 4
    · have hkd : decide ((k : Int) < 4) = true := by simp; omega
      obtain ⟨x, hx⟩ : ∃ x, d.toL.getD k 0 = x := ⟨_, rfl⟩
      have hxw : isW x := by rw [← hx]; exact (D4.toL_ok hd).get k
      have hx0 := hxw.1
      have hx1 := hxw.2
      have hcl : wr.cell? ⟨w.heap.size, k, none⟩ = some (.int .u32 x) := by rw [← hx]; exact hA.cell (by rw [D4.toL_len]; omega)
      have HX := Lib.hid hx
      clear hx
      have hk0 : (0 : Int) ≤ k := by omega
      have hk3 : (k : Int) < 4 := by omega
      clear hxw
      obtain ⟨c3, h3, hc3⟩ : ∃ c : UInt8, x / 16777216 = (c.toNat : Int) ∧ c = byteN x.toNat 3 := ⟨_, by rw [byteN_nat]; simp only [show (256 : Nat) ^ 3 = 16777216 from rfl]; omega, rfl⟩
      obtain ⟨c2, h2, hc2⟩ : ∃ c : UInt8, x / 65536 % 256 = (c.toNat : Int) ∧ c = byteN x.toNat 2 := ⟨_, by rw [byteN_nat]; simp only [show (256 : Nat) ^ 2 = 65536 from rfl]; omega, rfl⟩
      obtain ⟨c1, h1, hc1⟩ : ∃ c : UInt8, x / 256 % 256 = (c.toNat : Int) ∧ c = byteN x.toNat 1 := ⟨_, by rw [byteN_nat]; simp only [show (256 : Nat) ^ 1 = 256 from rfl]; omega, rfl⟩
      obtain ⟨c0, h0, hc0⟩ : ∃ c : UInt8, x % 256 = (c.toNat : Int) ∧ c = byteN x.toNat 0 := ⟨_, by rw [byteN_nat]; simp only [show (256 : Nat) ^ 0 = 1 from rfl]; omega, rfl⟩
      have HI : Hid (hiP d.toL (k + 1) = hiP d.toL k ++ [c3, c2, c1, c0]) := by
        show _ = _
        rw [hiP, HX.out, hi4, ← hc3, ← hc2, ← hc1, ← hc0]
      clear hc3 hc2 hc1 hc0
      have hcv := conv4 c3 c2 c1 c0 wr
      go_wp2_with fail
      go_region
      clear hcv h3 h2 h1 h0
      have hA1 : Arr .u32 29 w.heap.size d.toL (wr.alloc (.cells #[.int .u8 (c3.toNat : Int), .int .u8 (c2.toNat : Int), .int .u8 (c1.toNat : Int), .int .u8 (c0.toNat : Int)] 5)).drew := hA.al _
      have hB1 := (hB.alloc hB.size (.cells #[.int .u8 (c3.toNat : Int), .int .u8 (c2.toNat : Int), .int .u8 (c1.toNat : Int), .int .u8 (c0.toNat : Int)] 5)).drew
      clear hA hB
      go_wp2_with fail
      go_roundw
      case rel =>
        refine ⟨k + 1, _, by omega, by go_num, rfl, ?_, ?_, hA1, hB1⟩
        · rw [ByteArray.size_append, hts]; show 4 * k + 4 = 4 * (k + 1); omega
        · show (t ++ (⟨#[c3, c2, c1, c0]⟩ : ByteArray)).data.toList = _
          rw [ByteArray.data_append, Array.toList_append, HT.out, HI.out]
      case measure => simp [intOf]; omega
    · have hk4 : k = 4 := by omega
      subst hk4
      have HS := Lib.hid (show t.size ≤ 1000000 by omega)
      have HT2 : Hid (textL t.data.toList = dTextL d) := by
        show _ = _
        rw [HT.out, hiP_list]; rfl
      clear hts hA
      go_wp2_with fail
      refine (refText_hex t wr HS.out).mono ?_
      rw [HT2.out]
      rintro e w1 ⟨rfl, hB1⟩
      go_wp2_with fail
      go_ret
      exact ⟨rfl, hB.trans (hB1.mono hB.size)⟩

/-! The document's Parse. -/
def shl8 (a : Int) (c : UInt8) : Int := a * 256 % 4294967296 + (c.toNat : Int)
/-- So many bytes, put into the words, each behind the ones before. -/
def inP (l : List UInt8) : Nat → List Int
  | 0 => [0, 0, 0, 0]
  | n + 1 => (inP l n).set (n / 4) (shl8 ((inP l n).getD (n / 4) 0) (l.getD n 0))
theorem inP_len (l : List UInt8) (n : Nat) : (inP l n).length = 4 := by
  induction n with
  | zero => rfl
  | succ n ih => rw [inP, List.length_set, ih]
theorem shl8_bd (a : Int) (c : UInt8) : isW (shl8 a c) := by
  have := c.toNat_lt
  unfold isW shl8
  omega
theorem inP_ok (l : List UInt8) (n : Nat) : allW (inP l n) := by
  induction n with
  | zero =>
    intro x hx
    simp [inP] at hx
    rw [hx]; exact ⟨by decide, by decide⟩
  | succ n ih => exact ih.put _ (shl8_bd _ _)
theorem shl8_four (a b c d : UInt8) : shl8 (shl8 (shl8 (shl8 0 a) b) c) d = fw d c b a := by
  have := a.toNat_lt
  have := b.toNat_lt
  have := c.toNat_lt
  have := d.toNat_lt
  unfold shl8 fw
  omega
theorem inP_list (l : List UInt8) : inP l 16 = (bD l).toL := by
  simp only [inP, bD, swapD, four, wAt, revW_fw, D4.toL, Nat.reduceDiv, Nat.reduceMul, Nat.reduceAdd, List.set_cons_zero, List.set_cons_succ, List.getD_cons_zero, List.getD_cons_succ, shl8_four]
theorem or_shl8 {a : Int} (c : UInt8) : bits .or .u32 (a * 256 % 4294967296) (c.toNat : Int) = shl8 a c := by
  have hc := c.toNat_lt
  obtain ⟨h, hh⟩ := Int.eq_ofNat_of_zero_le (show 0 ≤ a * 256 % 4294967296 by omega)
  have h1 : h % 2 ^ 8 = 0 := by omega
  have h2 : h < 4294967296 := by omega
  unfold shl8
  rw [hh, u32_or_nat _ _ h2 (by omega), Nat.or_comm, ← u32_or_nat _ _ (by omega) h2, join_lo 8 _ _ (by decide) (by omega) h1 h2]
  omega

theorem rparse_named (s t : ByteArray) (i f : Int) (w : World) (hs : s.size ≤ 1000000) (h : t.data.toList = pV s.data.toList ∧ i = pI s.data.toList ∧ f = pE s.data.toList) :
    Calls Tryd.prog 40 #[.string s] w fun e w' => e = .returned (.tuple #[.string t, .int .i64 i, .int .i64 f]) ∧ Below w.heap.size w w' := by
  obtain ⟨h1, rfl, rfl⟩ := h
  rw [show t = ⟨(pV s.data.toList).toArray⟩ by rw [← h1]]
  exact refParse_hex s w hs
set_option maxHeartbeats 3000000 in
theorem rparse_no (s : ByteArray) (w : World) (hs : s.size ≤ 1000000) (hg : goodD s.data.toList = false) (f : Int) (hf : f = pE s.data.toList) (b1 b2 : Bool) (h1 : (f != 0) = b1) (h2 : (((pV s.data.toList).length : Int) != 16) = b2) (h12 : (b1 || b2) = true) :
    Calls Tryd.prog 23 #[.string s] w fun e w' => e = .returned (.tuple #[(dRead s.data.toList).val, .int .i64 (dErr s.data.toList)]) ∧ Below w.heap.size w w' := by
  have HR : Hid (dRead s.data.toList = zeroD ∧ dErr s.data.toList = 3) := by
    show _ ∧ _
    unfold dRead dErr
    rw [hg]; exact ⟨rfl, rfl⟩
  obtain ⟨t, ht⟩ : ∃ t : ByteArray, t.data.toList = pV s.data.toList := ⟨⟨(pV s.data.toList).toArray⟩, List.toList_toArray⟩
  obtain ⟨i, hi⟩ : ∃ i, i = pI s.data.toList := ⟨_, rfl⟩
  have HP := Lib.hid (show t.data.toList = pV s.data.toList ∧ i = pI s.data.toList ∧ f = pE s.data.toList from ⟨ht, hi, hf⟩)
  rw [← ht, len_listH] at h2
  clear ht hi hf hg
  obtain ⟨w0, hw0⟩ : ∃ w0, w.alloc (.cells #[.int .u32 0, .int .u32 0, .int .u32 0, .int .u32 0] 29) = w0 := ⟨_, rfl⟩
  obtain ⟨hA, hB⟩ := start4 w w0 hw0
  go_enter Tryd.func23, Tryd.ntmps23
  go_wp2_with fail
  clear hw0
  refine (rparse_named s t i f w0 hs HP.out).mono ?_
  rintro e w1 ⟨rfl, hB1⟩
  have hA2 := hA.on hB1
  have hB2 := hB.trans (hB1.mono hB.size)
  clear hA hB hB1
  obtain ⟨k0, k1, k2, k3⟩ := Arr.c4 (d := zeroD) hA2
  obtain ⟨f0, f1, f2, f3⟩ := hA2.f4
  have hA1 := put4 (d := zeroD) hA2 rfl
  have hB1 := below_put4 hB2 (Nat.le_refl _) zeroD
  cases b1 with
  | true =>
    go_wp2_with fail
    simp only [zeroD] at hA1 hB1
    generalize (((w1.setCell ⟨w.heap.size, 0, none⟩ (.int .u32 0)).setCell ⟨w.heap.size, 1, none⟩ (.int .u32 0)).setCell ⟨w.heap.size, 2, none⟩ (.int .u32 0)).setCell ⟨w.heap.size, 3, none⟩ (.int .u32 0) = wf at *
    obtain ⟨r0, r1, r2, r3⟩ := Arr.c4 (d := ⟨0, 0, 0, 0⟩) hA1
    simp only at r0 r1 r2 r3
    refine bodyPost_ret (v := .tuple #[zeroD.val, .int .i64 3]) (by simp [results, Tryd.results23, go_sem, D4.val, zeroD, r0, r1, r2, r3]) rfl ⟨by rw [HR.out.1, HR.out.2], hB1⟩
  | false =>
    have hb : b2 = true := h12
    subst hb
    go_wp2_with fail
    simp only [zeroD] at hA1 hB1
    generalize (((w1.setCell ⟨w.heap.size, 0, none⟩ (.int .u32 0)).setCell ⟨w.heap.size, 1, none⟩ (.int .u32 0)).setCell ⟨w.heap.size, 2, none⟩ (.int .u32 0)).setCell ⟨w.heap.size, 3, none⟩ (.int .u32 0) = wf at *
    obtain ⟨r0, r1, r2, r3⟩ := Arr.c4 (d := ⟨0, 0, 0, 0⟩) hA1
    simp only at r0 r1 r2 r3
    refine bodyPost_ret (v := .tuple #[zeroD.val, .int .i64 3]) (by simp [results, Tryd.results23, go_sem, D4.val, zeroD, r0, r1, r2, r3]) rfl ⟨by rw [HR.out.1, HR.out.2], hB1⟩

set_option maxHeartbeats 4000000 in
theorem rparse_good (s : ByteArray) (w : World) (hg : goodD s.data.toList = true) : Calls Tryd.prog 23 #[.string s] w fun e w' => e = .returned (.tuple #[(dRead s.data.toList).val, .int .i64 (dErr s.data.toList)]) ∧ Below w.heap.size w w' := by
  obtain ⟨g1, g2, _, _, g5⟩ := good_len hg
  have hn : s.size = 32 := by rw [← len_listH]; exact g1
  obtain ⟨t, ht⟩ : ∃ t : ByteArray, t.data.toList = pV s.data.toList := ⟨⟨(pV s.data.toList).toArray⟩, List.toList_toArray⟩
  have hts : t.size = 16 := by rw [← len_listH, ht]; exact g5
  obtain ⟨i, hi⟩ : ∃ i, i = pI s.data.toList := ⟨_, rfl⟩
  obtain ⟨z, hz⟩ : ∃ z, bD t.data.toList = z := ⟨_, rfl⟩
  have HR : Hid (dRead s.data.toList = z ∧ dErr s.data.toList = 0) := by
    show _ ∧ _
    unfold dRead dErr
    rw [hg, if_pos rfl, if_pos rfl, ← hz, ht]; exact ⟨rfl, rfl⟩
  have HS := Lib.hid (show s.size ≤ 1000000 by omega)
  have HP := Lib.hid (show t.data.toList = pV s.data.toList ∧ i = pI s.data.toList ∧ 0 = pE s.data.toList from ⟨ht, hi, g2.symm⟩)
  have HT := Lib.hid hts
  have HZ : Hid (inP t.data.toList 16 = z.toL) := by show _ = _; rw [inP_list, hz]
  have t2 : ((t.size : Int) != 16) = false := by simp; omega
  clear ht hi g1 g2 g5 hts hz hg hn
  obtain ⟨w0, hw0⟩ : ∃ w0, w.alloc (.cells #[.int .u32 0, .int .u32 0, .int .u32 0, .int .u32 0] 29) = w0 := ⟨_, rfl⟩
  obtain ⟨hA, hB⟩ := start4 w w0 hw0
  go_enter Tryd.func23, Tryd.ntmps23
  go_wp2_with fail
  clear hw0
  refine (rparse_named s t i 0 w0 HS.out HP.out).mono ?_
  rintro e w1 ⟨rfl, hB1⟩
  have hR1 := hA.on hB1
  have hB2 := hB.trans (hB1.mono hB.size)
  clear hA hB hB1
  go_wp2_with fail
  clear t2
  have hN := (start4 w1 _ rfl).1
  have hR2 := hR1.al (.cells #[.int .u32 0, .int .u32 0, .int .u32 0, .int .u32 0] 29)
  have hB3 := hB2.alloc hB2.size (.cells #[.int .u32 0, .int .u32 0, .int .u32 0, .int .u32 0] 29)
  have hne : w.heap.size ≠ w1.heap.size := Nat.ne_of_lt hR1.lt
  have hle := hB2.size
  generalize w1.alloc (.cells #[.int .u32 0, .int .u32 0, .int .u32 0, .int .u32 0] 29) = w2 at *
  generalize w1.heap.size = G at *
  clear hR1 hB2
  go_loopw [8] (fun i wr => ∃ k : Nat, k ≤ 16 ∧ i = .int .i64 k ∧ Arr .u32 29 G (inP t.data.toList k) wr ∧ Arr .u32 29 w.heap.size [0, 0, 0, 0] wr ∧ Below w.heap.size w wr) (fun i _ => 16 - (intOf i).toNat)
  case atStart => exact ⟨0, by omega, rfl, hN, hR2, hB3⟩
  case round =>
    clear hN hR2 hB3
    obtain ⟨k, hk, rfl, hN, hR, hB⟩ := hrel
    by_cases hlt : k < 16
    · have hkd : decide ((k : Int) < 16) = true := by simp; omega
      have htk : k < t.size := by have := HT.out; omega
      obtain ⟨q, hq⟩ : ∃ q, k / 4 = q := ⟨_, rfl⟩
      obtain ⟨a, ha⟩ : ∃ a, (inP t.data.toList k).getD q 0 = a := ⟨_, rfl⟩
      have haw : isW a := by rw [← ha]; exact (inP_ok _ k).get _
      have hNl := inP_len t.data.toList k
      have HI : Hid (inP t.data.toList (k + 1) = (inP t.data.toList k).set q (bits .or .u32 (a * 256 % 4294967296) (t[k].toNat : Int))) := by
        show _ = _
        rw [inP, hq, ha, getD_at t k htk, or_shl8]
      generalize inP t.data.toList k = M at *
      have hcl : wr.cell? ⟨G, q, none⟩ = some (.int .u32 a) := by rw [← ha]; exact hN.cell (by omega)
      clear ha
      have hf := hN.fz q
      have hN1 : Arr .u32 29 G (M.set q (bits .or .u32 (a * 256 % 4294967296) (t[k].toNat : Int))) (wr.setCell ⟨G, q, none⟩ (.int .u32 (bits .or .u32 (a * 256 % 4294967296) (t[k].toNat : Int)))).drew := hN.set q _
      have hR1 : Arr .u32 29 w.heap.size [0, 0, 0, 0] (wr.setCell ⟨G, q, none⟩ (.int .u32 (bits .or .u32 (a * 256 % 4294967296) (t[k].toNat : Int)))).drew := hR.far (a := ⟨G, q, none⟩) hne _
      have hB1 : Below w.heap.size w (wr.setCell ⟨G, q, none⟩ (.int .u32 (bits .or .u32 (a * 256 % 4294967296) (t[k].toNat : Int)))).drew := (hB.setCell (p := ⟨G, q, none⟩) hle _).drew
      rw [← HI.out] at hN1
      have hk0 : (0 : Int) ≤ k := by omega
      have hkt : (k : Int) < t.size := by omega
      have hct := (t[k]).toNat_lt
      have ha0 := haw.1
      have ha1 := haw.2
      have e1 : (k : Int).tdiv 4 = (q : Int) := by rw [Int.tdiv_eq_ediv_of_nonneg (by omega)]; omega
      have e1' : (k : Int) / 4 = (q : Int) := by omega
      have e2 : IntKind.i64.wrap (q : Int) = (q : Int) := IntWalk.i64_in _ (by omega)
      have e3 : (0 : Int) ≤ (q : Int) := by omega
      have e4 : (q : Int) < 4 := by omega
      have e5 : (q : Int).toNat = q := by omega
      clear hN hR hB haw hq
      go_wp2_with fail
      go_region
      go_wp2_with fail
      go_roundw
      case rel => exact ⟨k + 1, by omega, by go_num, hN1, hR1, hB1⟩
      case measure => simp [intOf]; omega
    · have hk16 : k = 16 := by omega
      subst hk16
      rw [HZ.out] at hN
      obtain ⟨t0, t1, t2, t3⟩ := hN.c4
      obtain ⟨k0, k1, k2, k3⟩ := Arr.c4 (d := zeroD) hR
      obtain ⟨f0, f1, f2, f3⟩ := hR.f4
      have hA1 := put4 (d := z) hR rfl
      have hB1 := below_put4 hB (Nat.le_refl _) z
      clear hN hR hB
      go_wp2_with fail
      generalize (((wr.setCell ⟨w.heap.size, 0, none⟩ (.int .u32 z.d0)).setCell ⟨w.heap.size, 1, none⟩ (.int .u32 z.d1)).setCell ⟨w.heap.size, 2, none⟩ (.int .u32 z.d2)).setCell ⟨w.heap.size, 3, none⟩ (.int .u32 z.d3) = wf at *
      obtain ⟨r0, r1, r2, r3⟩ := hA1.c4
      refine bodyPost_ret (v := .tuple #[z.val, .int .i64 0]) (by simp [results, Tryd.results23, go_sem, D4.val, r0, r1, r2, r3]) rfl ⟨by rw [HR.out.1, HR.out.2], hB1⟩
theorem rparse_any (s : ByteArray) (w : World) (hs : s.size ≤ 1000000) : Calls Tryd.prog 23 #[.string s] w fun e w' => e = .returned (.tuple #[(dRead s.data.toList).val, .int .i64 (dErr s.data.toList)]) ∧ Below w.heap.size w w' := by
  by_cases h : goodD s.data.toList = true
  · exact rparse_good s w h
  · have h' : goodD s.data.toList = false := by simpa using h
    refine rparse_no s w hs h' _ rfl _ _ rfl rfl ?_
    rcases pE_cases s.data.toList with q | q
    · by_cases n : (pV s.data.toList).length = 16
      · exact absurd (good_of q n) h
      · rw [q]; simp; omega
    · rw [q]; rfl
end Go.Proofs.YtepcpjppogcjbaaDoor
