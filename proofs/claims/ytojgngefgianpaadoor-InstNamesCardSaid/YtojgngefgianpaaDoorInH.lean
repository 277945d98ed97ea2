/-
  The code's Text (written by gen_inH.py).
-/
import Derived.Test.YtojgngefgianpaaDoorInG
import Derived.Test.YtojgngefgianpaaDoorInM
import Derived.Test.YtojgngefgianpaaDoorText
import Derived.Test.YtojgngefgianpaaDoorShW
import Derived.Lib.SmallJoins
namespace Go.Proofs.YtojgngefgianpaaDoor
open Go.RowKit

theorem gPow7 : Tryd.prog.globalNamed "internal/strconv.uint64pow10" = some 1 := by kernel_rfl
/-- The library's table of powers of ten. -/
def PowOk (w : World) : Prop := Lib.TabIs Tryd.prog w "internal/strconv.uint64pow10" .u64 Lib.pow10Tab
theorem PowOk.low {w : World} (h : PowOk w) : 1 < w.heap.size := tab_low h gPow7
theorem PowOk.on {w w' : World} (h : PowOk w) (hB : Below w.heap.size w w') : PowOk w' := tab_below h gPow7 h.low hB
theorem PowOk.thr {B : Nat} {w w' : World} (h : PowOk w) (hB : Below B w w') (hb : 1 < B) : PowOk w' := tab_below h gPow7 hb hB
/-- A field's text. -/
def fieldB (m : Int) (n : Nat) : ByteArray := if m = 15 then ⟨#[114]⟩ ++ decB n else decB n
set_option maxHeartbeats 8000000 in
set_option maxRecDepth 100000 in
theorem cpart_any (n : Nat) (m : Int) (w : World) (hn : n ≤ 65535) (hT : PowOk w) : Calls Tryd.prog 29 #[.int .i64 (n : Int), .int .i64 m] w fun e w' => e = .returned (.string (fieldB m n)) ∧ Below w.heap.size w w' := by
  have hwr : IntKind.u32.wrap (n : Int) = (n : Int) := by rw [IntKind.wrap_u32]; omega
  have hsz := decB_size n (by omega)
  have HT : Hid (Calls Tryd.prog 36 #[.int .u32 (n : Int)] w fun e w' => e = .returned (.string (decB n)) ∧ Below w.heap.size w w') := text_any n (by omega) w hT
  by_cases hm : m = 15
  · subst hm
    go_enter Tryd.func29, Tryd.ntmps29
    go_wp2_with fail
    refine HT.out.mono ?_
    rintro e w1 ⟨rfl, hD⟩
    go_wp2_with fail
    refine bodyPost_ret (v := .string (⟨#[114]⟩ ++ decB n)) (by simp [results, Tryd.results29, go_sem]) rfl ⟨rfl, hD⟩
  · have hmb : (m == (15 : Int)) = false := by simp; exact hm
    have HF : Hid (fieldB m n = decB n) := by show _ = _; unfold fieldB; rw [if_neg hm]
    clear hm
    go_enter Tryd.func29, Tryd.ntmps29
    go_wp2_with fail
    refine HT.out.mono ?_
    rintro e w1 ⟨rfl, hD⟩
    go_wp2_with fail
    go_ret
    exact ⟨by rw [HF.out]; rfl, hD⟩
def sepN (m : Int) (s : ByteArray) : ByteArray := if m = 0 then s else ⟨#[44, 32]⟩
def pcT (m : Int) (n : Nat) (s : ByteArray) : List UInt8 := if m = 0 then [] else s.data.toList ++ (fieldB m n).data.toList
/-- What the rounds from the j-th on write. -/
def restT (ma mb mc : Int) (a b c : Nat) : Nat → ByteArray → List UInt8
  | 0, s => pcT ma a s ++ (pcT mb b (sepN ma s) ++ pcT mc c (sepN mb (sepN ma s)))
  | 1, s => pcT mb b s ++ pcT mc c (sepN mb s)
  | 2, s => pcT mc c s
  | _, _ => []
theorem most_shapes (o : Int) : (mostA o, mostB o, mostC o) = ((if hasB (partsB o) 97 then 15 else 0 : Int), (if hasB (partsB o) 98 then 15 else 0 : Int), (if hasB (partsB o) 99 then 65535 else if hasB (partsB o) 114 then 15 else 0 : Int)) := rfl
theorem text_code (o : Int) (a b c : Nat) (h1 : 1 ≤ o) (h2 : o ≤ 27) : (txtB (partsB o) (nameB o) a b c (partsB o).size).data.toList = (nameB o).data.toList ++ restT (mostA o) (mostB o) (mostC o) a b c 0 ⟨#[32]⟩ := by
  rw [text_form o a b c h1 h2]
  congr 1
  unfold mostA mostB mostC
  rcases parts_shapes o h1 h2 with h | h | h | h | h | h | h
  all_goals
    simp only [sufL, hasB, h]
    simp [restT, pcT, sepN, fieldB, decB_list]
theorem cells_app (L : List UInt8) (s : ByteArray) : Lib.byteCells L ++ Lib.strCells s = Lib.byteCells (L ++ s.data.toList) := by
  rw [Lib.strCells_eq]
  simp [Lib.byteCells]
theorem field_size (m : Int) (n : Nat) (h : n ≤ 65535) : (fieldB m n).size ≤ 21 := by
  have := decB_size n (by omega)
  unfold fieldB
  split
  · rw [ByteArray.size_append]; show 1 + _ ≤ _; omega
  · omega
theorem builder_thr {B b : Nat} {L : List UInt8} {w w' : World} (h : Lib.IsBuilder 53 5 B b (Lib.byteCells L) w) (hb : Below w.heap.size w w') : Lib.IsBuilder 53 5 B b (Lib.byteCells L) w' := by
  have key : ∀ p, Lib.BuilderAt 53 5 B b p (Lib.byteCells L) w → Lib.BuilderAt 53 5 B b p (Lib.byteCells L) w' := fun p q => by
    have hlt := q.lt
    obtain ⟨hB, v, hv, hown, hne⟩ := q
    exact ⟨hB, v, (hb.block b hlt).trans hv, hown.kept (row := none) ⟨hb.os, hb.tape, hb.output, hb.size, fun k hk _ => hb.block k hk⟩ (Classical.em _), hne⟩
  exact h.elim (fun q => Or.inl (key _ q)) (fun q => Or.inr (key _ q))
theorem rest_step0 (ma mb mc : Int) (a b c : Nat) (s : ByteArray) : restT ma mb mc a b c 0 s = pcT ma a s ++ restT ma mb mc a b c 1 (sepN ma s) := rfl
theorem rest_step1 (ma mb mc : Int) (a b c : Nat) (s : ByteArray) : restT ma mb mc a b c 1 s = pcT mb b s ++ restT ma mb mc a b c 2 (sepN mb s) := rfl
theorem rest_step2 (ma mb mc : Int) (a b c : Nat) (s : ByteArray) : restT ma mb mc a b c 2 s = pcT mc c s ++ restT ma mb mc a b c 3 (sepN mc s) := (List.append_nil _).symm
theorem pcT_no {m : Int} (h : (m == (0 : Int)) = true) (n : Nat) (s : ByteArray) : pcT m n s = [] ∧ sepN m s = s := by
  have h : m = 0 := by simpa using h
  subst h; exact ⟨rfl, rfl⟩
theorem pcT_yes {m : Int} (h : (m == (0 : Int)) = false) (n : Nat) (s : ByteArray) : pcT m n s = s.data.toList ++ (fieldB m n).data.toList ∧ sepN m s = ⟨#[44, 32]⟩ := by
  have h : ¬ m = 0 := by simpa using h
  unfold pcT sepN
  rw [if_neg h, if_neg h]; exact ⟨rfl, rfl⟩
theorem bytes_of {F : ByteArray} {L : List UInt8} (h : F.data.toList = L) : F = ⟨L.toArray⟩ := by
  subst h; rfl
set_option maxHeartbeats 8000000 in
set_option maxRecDepth 100000 in
theorem ctext_yes (o : Int) (a b c : Nat) (w : World) (hO : OpsOk w) (hT : PowOk w) (h : rightI o a b c = true) : Calls Tryd.prog 14 #[.agg #[.int .i64 o, .int .i64 (a : Int), .int .i64 (b : Int), .int .i64 (c : Int)]] w fun e w' => e = .returned (.string (txtB (partsB o) (nameB o) a b c (partsB o).size)) ∧ Below w.heap.size w w' := by
  obtain ⟨ho1, ho2, ha1, ha2, hb1, hb2, hc1, hc2⟩ := right_bd h
  have hfin := text_code o a b c ho1 ho2
  have hfind := cfind_any o
  have hns := nameB_size o
  obtain ⟨n, hn⟩ : ∃ n, n = nameB o := ⟨_, rfl⟩
  obtain ⟨ma, hma⟩ : ∃ n, n = mostA o := ⟨_, rfl⟩
  obtain ⟨mb, hmb⟩ : ∃ n, n = mostB o := ⟨_, rfl⟩
  obtain ⟨mc, hmc⟩ : ∃ n, n = mostC o := ⟨_, rfl⟩
  rw [← hma, ← hmb, ← hmc] at hfin hfind
  rw [← hn] at hfin hfind hns
  obtain ⟨F, hF⟩ : ∃ F, F = txtB (partsB o) (nameB o) a b c (partsB o).size := ⟨_, rfl⟩
  rw [← hn] at hF
  rw [← hF] at hfin
  rw [hn] at hF
  rw [← hF]
  have HF := Lib.hid hfind
  have HE := Lib.hid hfin
  have H := Lib.hid h
  clear hfind hfin h hn hma hmb hmc hF
  obtain ⟨w1, hw1⟩ : ∃ w', w.alloc (.cells #[.int .i64 o, .int .i64 (a : Int), .int .i64 (b : Int), .int .i64 (c : Int)] 23) = w' := ⟨_, rfl⟩
  have hI : Box 23 w.heap.size [.int .i64 o, .int .i64 (a : Int), .int .i64 (b : Int), .int .i64 (c : Int)] w1 := by rw [← hw1]; exact Box.new 23 [.int .i64 o, .int .i64 (a : Int), .int .i64 (b : Int), .int .i64 (c : Int)] w
  have hD : Below w.heap.size w w1 := by rw [← hw1]; exact (Below.refl _ _).alloc (Nat.le_refl _) _
  replace hO := hO.on hD
  replace hT := hT.on hD
  have hB := hD
  clear hD
  go_enter Tryd.func14, Tryd.ntmps14
  have chI0 := hI.cell (j := 0) (v := .int .i64 o) rfl
  have chI1 := hI.cell (j := 1) (v := .int .i64 (a : Int)) rfl
  have chI2 := hI.cell (j := 2) (v := .int .i64 (b : Int)) rfl
  have chI3 := hI.cell (j := 3) (v := .int .i64 (c : Int)) rfl
  go_wp2_with fail
  clear hw1 chI0 chI1 chI2 chI3
  refine (cright_val o a b c true w1 hO H.out).mono ?_
  rintro e w2 ⟨rfl, hD⟩
  replace hI := hI.on hD
  replace hO := hO.on hD
  replace hT := hT.on hD
  replace hB := hB.trans (hD.mono hB.size)
  clear hD
  have chI0 := hI.cell (j := 0) (v := .int .i64 o) rfl
  have chI1 := hI.cell (j := 1) (v := .int .i64 (a : Int)) rfl
  have chI2 := hI.cell (j := 2) (v := .int .i64 (b : Int)) rfl
  have chI3 := hI.cell (j := 3) (v := .int .i64 (c : Int)) rfl
  go_wp2_with fail
  clear chI0 chI1 chI2 chI3
  refine (HF.out w2 hO).mono ?_
  rintro e w3 ⟨rfl, hD⟩
  replace hI := hI.on hD
  replace hO := hO.on hD
  replace hT := hT.on hD
  replace hB := hB.trans (hD.mono hB.size)
  clear hD
  obtain ⟨w4, hw4⟩ : ∃ w', w3.alloc (.cells #[.string n, .int .i64 ma, .int .i64 mb, .int .i64 mc] 45) = w' := ⟨_, rfl⟩
  have hP : Box 45 w3.heap.size [.string n, .int .i64 ma, .int .i64 mb, .int .i64 mc] w4 := by rw [← hw4]; exact Box.new 45 [.string n, .int .i64 ma, .int .i64 mb, .int .i64 mc] w3
  have hD : Below w3.heap.size w3 w4 := by rw [← hw4]; exact (Below.refl _ _).alloc (Nat.le_refl _) _
  replace hI := hI.on hD
  replace hO := hO.on hD
  replace hT := hT.on hD
  replace hB := hB.trans (hD.mono hB.size)
  clear hD
  have hg := hT.low
  have hlI := hI.lt
  have hlP := hP.lt
  obtain ⟨wb, hwb⟩ : ∃ w', w4.alloc (.cells #[.pointer none, .slice none 0 0] 53) = w' := ⟨_, rfl⟩
  have hbl : Lib.IsBuilder 53 5 w4.heap.size w4.heap.size (Lib.byteCells []) wb := by rw [← hwb]; exact Lib.fresh_isBuilder _ _ _
  have hBB : Below w4.heap.size w4 wb := by rw [← hwb]; exact (Below.refl _ _).alloc (Nat.le_refl _) _
  have hPb := hP.thr hBB hlP
  have chP0 := hP.cell (j := 0) (v := .string n) rfl
  have chP1 := hP.cell (j := 1) (v := .int .i64 ma) rfl
  have chP2 := hP.cell (j := 2) (v := .int .i64 mb) rfl
  have chP3 := hP.cell (j := 3) (v := .int .i64 mc) rfl
  have e0 := hPb.cell (j := 0) (v := .string n) rfl
  go_wp2_with fail
  clear hw4 hwb chP0 chP1 chP2 chP3 e0
  refine (writeString_any w4.heap.size w4.heap.size (Lib.byteCells []) n wb hbl (by rw [Lib.byteCells_length]; show 0 + _ ≤ _; omega) hBB.size).mono ?_
  rw [cells_app]
  rintro e w5 ⟨rfl, hb5, hB5⟩
  have hb5' : Lib.IsBuilder 53 5 w4.heap.size w4.heap.size (Lib.byteCells ([] ++ n.data.toList)) w5 := Or.inr hb5
  rw [List.nil_append] at hb5'
  have hS := hBB.trans hB5
  have hI5 := hI.thr hS hlI
  have k0 := hI5.cell (j := 0) (v := .int .i64 o) rfl
  have k1 := hI5.cell (j := 1) (v := .int .i64 (a : Int)) rfl
  have k2 := hI5.cell (j := 2) (v := .int .i64 (b : Int)) rfl
  have k3 := hI5.cell (j := 3) (v := .int .i64 (c : Int)) rfl
  go_wp2_with fail
  clear k0 k1 k2 k3 hI5 hPb hbl hb5 hB5 hBB
  refine (cfieldsOf_any o a b c w5).mono ?_
  rintro e w6 ⟨rfl, hD⟩
  have HB := Lib.hid (builder_thr hb5' hD)
  replace hS := hS.trans (hD.mono hS.size)
  clear hD hb5'
  go_wp2_with fail
  go_loopw [5, 19] (fun sp i wr => ∃ (j : Nat) (L : List UInt8) (s : ByteArray), j ≤ 3 ∧ i = .int .i64 (j : Int) ∧ sp = .string s ∧ s.size ≤ 2 ∧ L.length ≤ 1000 + 30 * j ∧ Hid (Lib.IsBuilder 53 5 w4.heap.size w4.heap.size (Lib.byteCells L) wr) ∧ Hid (F.data.toList = L ++ restT ma mb mc a b c j s) ∧ Below w4.heap.size w4 wr) (fun _ i _ => 3 - (intOf i).toNat)
  case atStart => exact ⟨0, n.data.toList, ⟨#[32]⟩, by omega, rfl, rfl, by decide, hns, HB, HE, hS⟩
  case round =>
    clear hS HB HE
    obtain ⟨j, L, s, hj, rfl, rfl, hs, hL, HL, HJ, hS⟩ := hrel
    have hx0 := fun W => (run_fld a b c W).1
    have hx1 := fun W => (run_fld a b c W).2.1
    have hx2 := fun W => (run_fld a b c W).2.2
    have hPr := hP.thr hS hlP
    have p1 := hPr.cell (j := 1) (v := .int .i64 ma) rfl
    have p2 := hPr.cell (j := 2) (v := .int .i64 mb) rfl
    have p3 := hPr.cell (j := 3) (v := .int .i64 mc) rfl
    rcases (show j = 0 ∨ j = 1 ∨ j = 2 ∨ j = 3 by omega) with rfl | rfl | rfl | rfl
    · cases hz : (ma == (0 : Int))
      · have HN : Hid (F.data.toList = ((L ++ s.data.toList) ++ (fieldB ma a).data.toList) ++ restT ma mb mc a b c 1 ⟨#[44, 32]⟩) := by show _ = _; rw [HJ.out, rest_step0, (pcT_yes hz a s).1, (pcT_yes hz a s).2]; simp only [List.append_assoc]
        clear HJ
        go_wp2_with fail
        refine (writeString_any w4.heap.size w4.heap.size (Lib.byteCells L) s wr HL.out (by rw [Lib.byteCells_length]; omega) hS.size).mono ?_
        rw [cells_app]
        rintro e w7 ⟨rfl, hb7, hB7⟩
        have HL7 : Hid (Lib.IsBuilder 53 5 w4.heap.size w4.heap.size (Lib.byteCells (L ++ s.data.toList)) w7) := Or.inr hb7
        have hS7 := hS.trans hB7
        have hl7 : (L ++ s.data.toList).length = L.length + s.size := by rw [List.length_append]; rfl
        clear hb7 hB7 p1 p2 p3 hPr
        have hPr := hP.thr hS7 hlP
        have p1 := hPr.cell (j := 1) (v := .int .i64 ma) rfl
        have p2 := hPr.cell (j := 2) (v := .int .i64 mb) rfl
        have p3 := hPr.cell (j := 3) (v := .int .i64 mc) rfl
        generalize L ++ s.data.toList = L7 at HL7 HN hl7
        go_wp2_with fail
        refine (cpart_any a ma w7 (by omega) (hT.thr hS7 hg)).mono ?_
        rintro e w8 ⟨rfl, hD⟩
        have HL8 := Lib.hid (builder_thr HL7.out hD)
        have hS8 := hS7.trans (hD.mono hS7.size)
        have hf := field_size ma a (by omega)
        generalize fieldB ma a = fb at HN hf
        clear hD p1 p2 p3 hPr
        go_wp2_with fail
        refine (writeString_any w4.heap.size w4.heap.size (Lib.byteCells L7) fb w8 HL8.out (by rw [Lib.byteCells_length]; omega) hS8.size).mono ?_
        rw [cells_app]
        rintro e w9 ⟨rfl, hb9, hB9⟩
        have HL9 : Hid (Lib.IsBuilder 53 5 w4.heap.size w4.heap.size (Lib.byteCells (L7 ++ fb.data.toList)) w9) := Or.inr hb9
        have hS9 := hS8.trans hB9
        have hl9 : (L7 ++ fb.data.toList).length = L7.length + fb.size := by rw [List.length_append]; rfl
        clear hb9 hB9
        generalize L7 ++ fb.data.toList = L9 at HL9 HN hl9
        go_wp2_with fail
        go_roundw
        case rel => exact ⟨1, L9, ⟨#[44, 32]⟩, by omega, rfl, rfl, by decide, by omega, HL9, HN, hS9⟩
        case measure => simp [intOf]
      · have HN : Hid (F.data.toList = L ++ restT ma mb mc a b c 1 s) := by show _ = _; rw [HJ.out, rest_step0, (pcT_no hz a s).1, (pcT_no hz a s).2]; rfl
        clear HJ
        go_wp2_with fail
        go_roundw
        case rel => exact ⟨1, L, s, by omega, rfl, rfl, hs, by omega, HL, HN, hS⟩
        case measure => simp [intOf]
    · cases hz : (mb == (0 : Int))
      · have HN : Hid (F.data.toList = ((L ++ s.data.toList) ++ (fieldB mb b).data.toList) ++ restT ma mb mc a b c 2 ⟨#[44, 32]⟩) := by show _ = _; rw [HJ.out, rest_step1, (pcT_yes hz b s).1, (pcT_yes hz b s).2]; simp only [List.append_assoc]
        clear HJ
        go_wp2_with fail
        refine (writeString_any w4.heap.size w4.heap.size (Lib.byteCells L) s wr HL.out (by rw [Lib.byteCells_length]; omega) hS.size).mono ?_
        rw [cells_app]
        rintro e w7 ⟨rfl, hb7, hB7⟩
        have HL7 : Hid (Lib.IsBuilder 53 5 w4.heap.size w4.heap.size (Lib.byteCells (L ++ s.data.toList)) w7) := Or.inr hb7
        have hS7 := hS.trans hB7
        have hl7 : (L ++ s.data.toList).length = L.length + s.size := by rw [List.length_append]; rfl
        clear hb7 hB7 p1 p2 p3 hPr
        have hPr := hP.thr hS7 hlP
        have p1 := hPr.cell (j := 1) (v := .int .i64 ma) rfl
        have p2 := hPr.cell (j := 2) (v := .int .i64 mb) rfl
        have p3 := hPr.cell (j := 3) (v := .int .i64 mc) rfl
        generalize L ++ s.data.toList = L7 at HL7 HN hl7
        go_wp2_with fail
        refine (cpart_any b mb w7 (by omega) (hT.thr hS7 hg)).mono ?_
        rintro e w8 ⟨rfl, hD⟩
        have HL8 := Lib.hid (builder_thr HL7.out hD)
        have hS8 := hS7.trans (hD.mono hS7.size)
        have hf := field_size mb b (by omega)
        generalize fieldB mb b = fb at HN hf
        clear hD p1 p2 p3 hPr
        go_wp2_with fail
        refine (writeString_any w4.heap.size w4.heap.size (Lib.byteCells L7) fb w8 HL8.out (by rw [Lib.byteCells_length]; omega) hS8.size).mono ?_
        rw [cells_app]
        rintro e w9 ⟨rfl, hb9, hB9⟩
        have HL9 : Hid (Lib.IsBuilder 53 5 w4.heap.size w4.heap.size (Lib.byteCells (L7 ++ fb.data.toList)) w9) := Or.inr hb9
        have hS9 := hS8.trans hB9
        have hl9 : (L7 ++ fb.data.toList).length = L7.length + fb.size := by rw [List.length_append]; rfl
        clear hb9 hB9
        generalize L7 ++ fb.data.toList = L9 at HL9 HN hl9
        go_wp2_with fail
        go_roundw
        case rel => exact ⟨2, L9, ⟨#[44, 32]⟩, by omega, rfl, rfl, by decide, by omega, HL9, HN, hS9⟩
        case measure => simp [intOf]
      · have HN : Hid (F.data.toList = L ++ restT ma mb mc a b c 2 s) := by show _ = _; rw [HJ.out, rest_step1, (pcT_no hz b s).1, (pcT_no hz b s).2]; rfl
        clear HJ
        go_wp2_with fail
        go_roundw
        case rel => exact ⟨2, L, s, by omega, rfl, rfl, hs, by omega, HL, HN, hS⟩
        case measure => simp [intOf]
    · cases hz : (mc == (0 : Int))
      · have HN : Hid (F.data.toList = ((L ++ s.data.toList) ++ (fieldB mc c).data.toList) ++ restT ma mb mc a b c 3 ⟨#[44, 32]⟩) := by show _ = _; rw [HJ.out, rest_step2, (pcT_yes hz c s).1, (pcT_yes hz c s).2]; simp only [List.append_assoc]
        clear HJ
        go_wp2_with fail
        refine (writeString_any w4.heap.size w4.heap.size (Lib.byteCells L) s wr HL.out (by rw [Lib.byteCells_length]; omega) hS.size).mono ?_
        rw [cells_app]
        rintro e w7 ⟨rfl, hb7, hB7⟩
        have HL7 : Hid (Lib.IsBuilder 53 5 w4.heap.size w4.heap.size (Lib.byteCells (L ++ s.data.toList)) w7) := Or.inr hb7
        have hS7 := hS.trans hB7
        have hl7 : (L ++ s.data.toList).length = L.length + s.size := by rw [List.length_append]; rfl
        clear hb7 hB7 p1 p2 p3 hPr
        have hPr := hP.thr hS7 hlP
        have p1 := hPr.cell (j := 1) (v := .int .i64 ma) rfl
        have p2 := hPr.cell (j := 2) (v := .int .i64 mb) rfl
        have p3 := hPr.cell (j := 3) (v := .int .i64 mc) rfl
        generalize L ++ s.data.toList = L7 at HL7 HN hl7
        go_wp2_with fail
        refine (cpart_any c mc w7 (by omega) (hT.thr hS7 hg)).mono ?_
        rintro e w8 ⟨rfl, hD⟩
        have HL8 := Lib.hid (builder_thr HL7.out hD)
        have hS8 := hS7.trans (hD.mono hS7.size)
        have hf := field_size mc c (by omega)
        generalize fieldB mc c = fb at HN hf
        clear hD p1 p2 p3 hPr
        go_wp2_with fail
        refine (writeString_any w4.heap.size w4.heap.size (Lib.byteCells L7) fb w8 HL8.out (by rw [Lib.byteCells_length]; omega) hS8.size).mono ?_
        rw [cells_app]
        rintro e w9 ⟨rfl, hb9, hB9⟩
        have HL9 : Hid (Lib.IsBuilder 53 5 w4.heap.size w4.heap.size (Lib.byteCells (L7 ++ fb.data.toList)) w9) := Or.inr hb9
        have hS9 := hS8.trans hB9
        have hl9 : (L7 ++ fb.data.toList).length = L7.length + fb.size := by rw [List.length_append]; rfl
        clear hb9 hB9
        generalize L7 ++ fb.data.toList = L9 at HL9 HN hl9
        go_wp2_with fail
        go_roundw
        case rel => exact ⟨3, L9, ⟨#[44, 32]⟩, by omega, rfl, rfl, by decide, by omega, HL9, HN, hS9⟩
        case measure => simp [intOf]
      · have HN : Hid (F.data.toList = L ++ restT ma mb mc a b c 3 s) := by show _ = _; rw [HJ.out, rest_step2, (pcT_no hz c s).1, (pcT_no hz c s).2]; rfl
        clear HJ
        go_wp2_with fail
        go_roundw
        case rel => exact ⟨3, L, s, by omega, rfl, rfl, hs, by omega, HL, HN, hS⟩
        case measure => simp [intOf]
    · have HN : Hid (F = ⟨L.toArray⟩) := bytes_of (HJ.out.trans (List.append_nil L))
      clear HJ
      go_wp2_with fail
      refine (string_any w4.heap.size w4.heap.size L wr HL.out hS.size).mono ?_
      rintro e w7 ⟨rfl, hB7⟩
      go_wp2_with fail
      refine bodyPost_ret (v := .string ⟨L.toArray⟩) (by simp [results, Tryd.results14, go_sem]) rfl ⟨by rw [HN.out], hB.trans ((hS.trans hB7).mono hB.size)⟩
set_option maxHeartbeats 8000000 in
set_option maxRecDepth 100000 in
theorem ctext_no (o a b c : Int) (w : World) (hO : OpsOk w) (h : rightI o a b c = false) : Calls Tryd.prog 14 #[.agg #[.int .i64 o, .int .i64 a, .int .i64 b, .int .i64 c]] w fun e w' => e = .returned (.string ⟨#[]⟩) ∧ Below w.heap.size w w' := by
  have H := Lib.hid h
  clear h
  obtain ⟨w1, hw1⟩ : ∃ w', w.alloc (.cells #[.int .i64 o, .int .i64 a, .int .i64 b, .int .i64 c] 23) = w' := ⟨_, rfl⟩
  have hI : Box 23 w.heap.size [.int .i64 o, .int .i64 a, .int .i64 b, .int .i64 c] w1 := by rw [← hw1]; exact Box.new 23 [.int .i64 o, .int .i64 a, .int .i64 b, .int .i64 c] w
  have hD : Below w.heap.size w w1 := by rw [← hw1]; exact (Below.refl _ _).alloc (Nat.le_refl _) _
  replace hO := hO.on hD
  have hB := hD
  clear hD
  go_enter Tryd.func14, Tryd.ntmps14
  have chI0 := hI.cell (j := 0) (v := .int .i64 o) rfl
  have chI1 := hI.cell (j := 1) (v := .int .i64 a) rfl
  have chI2 := hI.cell (j := 2) (v := .int .i64 b) rfl
  have chI3 := hI.cell (j := 3) (v := .int .i64 c) rfl
  go_wp2_with fail
  clear hw1 chI0 chI1 chI2 chI3
  refine (cright_val o a b c false w1 hO H.out).mono ?_
  rintro e w2 ⟨rfl, hD⟩
  replace hI := hI.on hD
  replace hO := hO.on hD
  replace hB := hB.trans (hD.mono hB.size)
  clear hD
  go_wp2_with fail
  refine bodyPost_ret (v := .string ⟨#[]⟩) (by simp [results, Tryd.results14, go_sem]) rfl ⟨rfl, hB⟩
end Go.Proofs.YtojgngefgianpaaDoor
