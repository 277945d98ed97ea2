/-
  The document's number and Text of layer 7, over any contract of layer 1's Text (written by gen_in5.py).
-/
import Derived.Test.YtojgngefgianpaaDoorInD
import Derived.Lib.ItoaLen
import Derived.Lib.SmallJoins
namespace Go.Proofs.YtojgngefgianpaaDoor
open Go.RowKit

/-- A number's text. -/
def decB (u : Nat) : ByteArray := ⟨(Lib.decDigits u).toArray⟩
theorem decB_size (u : Nat) (h : u < 4294967296) : (decB u).size ≤ 20 := by
  have h1 : (decB u).data.toList.length = (decB u).size := Array.length_toList
  have h2 : Lib.nDigits u ≤ 20 := Lib.nDigits_le20 u (by omega)
  rw [← h1]
  show (Lib.decDigits u).toArray.toList.length ≤ 20
  rw [List.toList_toArray, Lib.decDigits_length]; exact h2
def sepB (k : Nat) : ByteArray := if k = 0 then ⟨#[32]⟩ else ⟨#[44, 32]⟩
def pieceB (t : ByteArray) (x : Int) (a b c : Nat) : ByteArray := if x = 97 then (t ++ ⟨#[114]⟩) ++ decB a else if x = 98 then (t ++ ⟨#[114]⟩) ++ decB b else if x = 114 then (t ++ ⟨#[114]⟩) ++ decB c else t ++ decB c
/-- The text so far: the name, and the first k parts. -/
def txtB (p n : ByteArray) (a b c : Nat) : Nat → ByteArray
  | 0 => n
  | k + 1 => pieceB (txtB p n a b c k ++ sepB k) ((p.data.toList.getD k 0).toNat : Int) a b c
theorem size_app (s t : ByteArray) : (s ++ t).size = s.size + t.size := ByteArray.size_append
theorem piece_size (t : ByteArray) (x : Int) (a b c : Nat) (ha : a < 4294967296) (hb : b < 4294967296) (hc : c < 4294967296) : (pieceB t x a b c).size ≤ t.size + 21 := by
  have h1 := decB_size a ha
  have h2 := decB_size b hb
  have h3 := decB_size c hc
  have h4 : (⟨#[114]⟩ : ByteArray).size = 1 := rfl
  unfold pieceB
  split
  · rw [size_app, size_app, h4]; omega
  · split
    · rw [size_app, size_app, h4]; omega
    · split
      · rw [size_app, size_app, h4]; omega
      · rw [size_app]; omega
theorem txt_size (p n : ByteArray) (a b c : Nat) (ha : a < 4294967296) (hb : b < 4294967296) (hc : c < 4294967296) : ∀ k, (txtB p n a b c k).size ≤ n.size + k * 23
  | 0 => by simp [txtB]
  | k + 1 => by
    have h := txt_size p n a b c ha hb hc k
    have h2 : (sepB k).size ≤ 2 := by unfold sepB; split <;> decide
    have h3 := piece_size (txtB p n a b c k ++ sepB k) ((p.data.toList.getD k 0).toNat : Int) a b c ha hb hc
    rw [size_app] at h3
    show (pieceB _ _ _ _ _).size ≤ _
    omega
theorem at_getD (p : ByteArray) (k : Nat) (h : k < p.size) : p.data.toList.getD k 0 = p[k] := by
  have hl : k < p.data.toList.length := by rw [Array.length_toList]; exact h
  rw [List.getD_eq_getElem?_getD, List.getElem?_eq_getElem hl]
  rfl
theorem nameB_size (o : Int) : (nameB o).size ≤ 1000 := by
  by_cases h : o < 1 ∨ 27 < o
  · rw [nameB_no o h]; decide
  · rcases op_cases o (by omega) (by omega) with rfl | rfl | rfl | rfl | rfl | rfl | rfl | rfl | rfl | rfl | rfl | rfl | rfl | rfl | rfl | rfl | rfl | rfl | rfl | rfl | rfl | rfl | rfl | rfl | rfl | rfl | rfl <;> decide
set_option maxHeartbeats 2000000 in
theorem rnumber_any (n : Nat) (w : World) (hn : n ≤ 65535) (HTx : ∀ (u : Nat) (w : World), u < 4294967296 → Calls Tryd.prog 37 #[.int .u32 (u : Int)] w fun e w' => e = .returned (.string (decB u)) ∧ Below w.heap.size w w') :
    Calls Tryd.prog 31 #[.int .i64 (n : Int)] w fun e w' => e = .returned (.string (decB n)) ∧ Below w.heap.size w w' := by
  have hwr : IntKind.u32.wrap (n : Int) = (n : Int) := by rw [IntKind.wrap_u32]; omega
  have H := Lib.hid HTx
  clear HTx
  go_enter Tryd.func31, Tryd.ntmps31
  go_wp2_with fail
  refine (H.out n w (by omega)).mono ?_
  rintro e w1 ⟨rfl, hD⟩
  go_wp2_with fail
  go_ret
  exact ⟨rfl, hD⟩
set_option maxHeartbeats 8000000 in
set_option maxRecDepth 100000 in
theorem rtext7_yes (o : Int) (a b c : Nat) (w : World) (ha : a ≤ 65535) (hb : b ≤ 65535) (hc : c ≤ 65535) (h : rightI o a b c = true) (HTx : ∀ (u : Nat) (w : World), u < 4294967296 → Calls Tryd.prog 37 #[.int .u32 (u : Int)] w fun e w' => e = .returned (.string (decB u)) ∧ Below w.heap.size w w') : Calls Tryd.prog 15 #[.agg #[.int .i64 o, .int .i64 (a : Int), .int .i64 (b : Int), .int .i64 (c : Int)]] w fun e w' => e = .returned (.string (txtB (partsB o) (nameB o) a b c (partsB o).size)) ∧ Below w.heap.size w w' := by
  have HH := Lib.hid h
  have HTX := Lib.hid HTx
  clear h HTx
  obtain ⟨p, hp⟩ : ∃ p, partsB o = p := ⟨_, rfl⟩
  obtain ⟨n, hn⟩ : ∃ n, nameB o = n := ⟨_, rfl⟩
  rw [hp, hn]
  have HNS := Lib.hid (show n.size ≤ 1000 by rw [← hn]; exact nameB_size o)
  have HPS := Lib.hid (show p.size ≤ 1000 by rw [← hp]; exact partsB_size o)
  have HP := Lib.hid hp
  have HN := Lib.hid hn
  clear hp hn
  obtain ⟨w1, hw1⟩ : ∃ w', w.alloc (.cells #[.int .i64 o, .int .i64 (a : Int), .int .i64 (b : Int), .int .i64 (c : Int)] 23) = w' := ⟨_, rfl⟩
  have hI : Box 23 w.heap.size [.int .i64 o, .int .i64 (a : Int), .int .i64 (b : Int), .int .i64 (c : Int)] w1 := by rw [← hw1]; exact Box.new 23 [.int .i64 o, .int .i64 (a : Int), .int .i64 (b : Int), .int .i64 (c : Int)] w
  have hD : Below w.heap.size w w1 := by rw [← hw1]; exact (Below.refl _ _).alloc (Nat.le_refl _) _
  have hB := hD
  clear hD
  go_enter Tryd.func15, Tryd.ntmps15
  have chI0 := hI.cell (j := 0) (v := .int .i64 o) rfl
  have chI1 := hI.cell (j := 1) (v := .int .i64 (a : Int)) rfl
  have chI2 := hI.cell (j := 2) (v := .int .i64 (b : Int)) rfl
  have chI3 := hI.cell (j := 3) (v := .int .i64 (c : Int)) rfl
  go_wp2_with fail
  clear hw1 chI0 chI1 chI2 chI3
  refine (rright_val o a b c true w1 HH.out).mono ?_
  rintro e w2 ⟨rfl, hD⟩
  replace hI := hI.on hD
  replace hB := hB.trans (hD.mono hB.size)
  clear hD
  have chI0 := hI.cell (j := 0) (v := .int .i64 o) rfl
  have chI1 := hI.cell (j := 1) (v := .int .i64 (a : Int)) rfl
  have chI2 := hI.cell (j := 2) (v := .int .i64 (b : Int)) rfl
  have chI3 := hI.cell (j := 3) (v := .int .i64 (c : Int)) rfl
  go_wp2_with fail
  clear chI0 chI1 chI2 chI3
  refine (rparts_any o w2).mono ?_
  rintro e w9 ⟨rfl, rfl⟩
  rw [HP.out]
  have chI0 := hI.cell (j := 0) (v := .int .i64 o) rfl
  have chI1 := hI.cell (j := 1) (v := .int .i64 (a : Int)) rfl
  have chI2 := hI.cell (j := 2) (v := .int .i64 (b : Int)) rfl
  have chI3 := hI.cell (j := 3) (v := .int .i64 (c : Int)) rfl
  go_wp2_with fail
  clear chI0 chI1 chI2 chI3
  refine (rname_any o w2).mono ?_
  rintro e w9 ⟨rfl, rfl⟩
  rw [HN.out]
  have chI0 := hI.cell (j := 0) (v := .int .i64 o) rfl
  have chI1 := hI.cell (j := 1) (v := .int .i64 (a : Int)) rfl
  have chI2 := hI.cell (j := 2) (v := .int .i64 (b : Int)) rfl
  have chI3 := hI.cell (j := 3) (v := .int .i64 (c : Int)) rfl
  go_wp2_with fail
  clear chI0 chI1 chI2 chI3
  go_loopw [4, 5] (fun s i wr => ∃ k : Nat, k ≤ p.size ∧ i = .int .i64 (k : Int) ∧ s = .string (txtB p n a b c k) ∧ Box 23 (w.heap.size) [.int .i64 o, .int .i64 (a : Int), .int .i64 (b : Int), .int .i64 (c : Int)] wr ∧ Below w.heap.size w wr) (fun _ i _ => p.size - (intOf i).toNat)
  case atStart => exact ⟨0, Nat.zero_le _, rfl, rfl, hI, hB⟩
  case round =>
    clear hI hB
    obtain ⟨k, hk, rfl, rfl, hI, hB⟩ := hrel
    obtain ⟨t, ht⟩ : ∃ t, txtB p n a b c k = t := ⟨_, rfl⟩
    rw [ht]
    by_cases hlt : k < p.size
    · have hkd : decide ((k : Int) < (p.size : Int)) = true := by simp; omega
      have hk0 : (0 : Int) ≤ (k : Int) := by omega
      have hk1 : (k : Int) < (p.size : Int) := by omega
      have hts : t.size ≤ 30000 := by
        have h1 := txt_size p n a b c (by omega) (by omega) (by omega) k
        have h2 := HNS.out; have h3 := HPS.out
        rw [ht] at h1; omega
      have hkb : (k : Int) < 1000 := by have := HPS.out; omega
      have hgd := at_getD p k hlt
      have HT0 := Lib.hid ht
      have i0 := hI.cell (j := 0) (v := .int .i64 o) rfl
      have i1 := hI.cell (j := 1) (v := .int .i64 (a : Int)) rfl
      have i2 := hI.cell (j := 2) (v := .int .i64 (b : Int)) rfl
      have i3 := hI.cell (j := 3) (v := .int .i64 (c : Int)) rfl
      clear ht
      by_cases hz : k = 0
      · have z0 : ((k : Int) == 0) = true := by simp [hz]
        by_cases q97 : (p[k].toNat : Int) = 97
        · have HT1 : Hid (txtB p n a b c (k + 1) = ((t ++ ⟨#[32]⟩) ++ ⟨#[114]⟩) ++ decB a) := by show _ = _; rw [txtB, HT0.out, sepB, if_pos hz, hgd, pieceB, if_pos q97]
          have f97 : ((p[k].toNat : Int) == 97) = true := by simp [q97]
          clear hz hgd q97
          go_wp2_with fail
          refine (rnumber_any a _ ha HTX.out).mono ?_
          rintro e wn ⟨rfl, hD⟩
          replace hI := hI.on hD
          replace hB := hB.trans (hD.mono hB.size)
          clear i0 i1 i2 i3 hD
          have hds := decB_size a (by omega)
          go_wp2_with fail
          go_roundw
          case rel => exact ⟨k + 1, by omega, by go_num, by rw [HT1.out], hI, hB⟩
          case measure => simp [intOf]; omega
        · by_cases q98 : (p[k].toNat : Int) = 98
          · have HT1 : Hid (txtB p n a b c (k + 1) = ((t ++ ⟨#[32]⟩) ++ ⟨#[114]⟩) ++ decB b) := by show _ = _; rw [txtB, HT0.out, sepB, if_pos hz, hgd, pieceB, if_neg q97, if_pos q98]
            have f97 : ((p[k].toNat : Int) == 97) = false := by simp [q97]
            have f98 : ((p[k].toNat : Int) == 98) = true := by simp [q98]
            clear hz hgd q97 q98
            go_wp2_with fail
            refine (rnumber_any b _ hb HTX.out).mono ?_
            rintro e wn ⟨rfl, hD⟩
            replace hI := hI.on hD
            replace hB := hB.trans (hD.mono hB.size)
            clear i0 i1 i2 i3 hD
            have hds := decB_size b (by omega)
            go_wp2_with fail
            go_roundw
            case rel => exact ⟨k + 1, by omega, by go_num, by rw [HT1.out], hI, hB⟩
            case measure => simp [intOf]; omega
          · by_cases q114 : (p[k].toNat : Int) = 114
            · have HT1 : Hid (txtB p n a b c (k + 1) = ((t ++ ⟨#[32]⟩) ++ ⟨#[114]⟩) ++ decB c) := by show _ = _; rw [txtB, HT0.out, sepB, if_pos hz, hgd, pieceB, if_neg q97, if_neg q98, if_pos q114]
              have f97 : ((p[k].toNat : Int) == 97) = false := by simp [q97]
              have f98 : ((p[k].toNat : Int) == 98) = false := by simp [q98]
              have f114 : ((p[k].toNat : Int) == 114) = true := by simp [q114]
              clear hz hgd q97 q98 q114
              go_wp2_with fail
              refine (rnumber_any c _ hc HTX.out).mono ?_
              rintro e wn ⟨rfl, hD⟩
              replace hI := hI.on hD
              replace hB := hB.trans (hD.mono hB.size)
              clear i0 i1 i2 i3 hD
              have hds := decB_size c (by omega)
              go_wp2_with fail
              go_roundw
              case rel => exact ⟨k + 1, by omega, by go_num, by rw [HT1.out], hI, hB⟩
              case measure => simp [intOf]; omega
            · have HT1 : Hid (txtB p n a b c (k + 1) = (t ++ ⟨#[32]⟩) ++ decB c) := by show _ = _; rw [txtB, HT0.out, sepB, if_pos hz, hgd, pieceB, if_neg q97, if_neg q98, if_neg q114]
              have f97 : ((p[k].toNat : Int) == 97) = false := by simp [q97]
              have f98 : ((p[k].toNat : Int) == 98) = false := by simp [q98]
              have f114 : ((p[k].toNat : Int) == 114) = false := by simp [q114]
              clear hz hgd q97 q98 q114
              go_wp2_with fail
              refine (rnumber_any c _ hc HTX.out).mono ?_
              rintro e wn ⟨rfl, hD⟩
              replace hI := hI.on hD
              replace hB := hB.trans (hD.mono hB.size)
              clear i0 i1 i2 i3 hD
              have hds := decB_size c (by omega)
              go_wp2_with fail
              go_roundw
              case rel => exact ⟨k + 1, by omega, by go_num, by rw [HT1.out], hI, hB⟩
              case measure => simp [intOf]; omega
      · have z0 : ((k : Int) == 0) = false := by simp; omega
        by_cases q97 : (p[k].toNat : Int) = 97
        · have HT1 : Hid (txtB p n a b c (k + 1) = ((t ++ ⟨#[44, 32]⟩) ++ ⟨#[114]⟩) ++ decB a) := by show _ = _; rw [txtB, HT0.out, sepB, if_neg hz, hgd, pieceB, if_pos q97]
          have f97 : ((p[k].toNat : Int) == 97) = true := by simp [q97]
          clear hz hgd q97
          go_wp2_with fail
          refine (rnumber_any a _ ha HTX.out).mono ?_
          rintro e wn ⟨rfl, hD⟩
          replace hI := hI.on hD
          replace hB := hB.trans (hD.mono hB.size)
          clear i0 i1 i2 i3 hD
          have hds := decB_size a (by omega)
          go_wp2_with fail
          go_roundw
          case rel => exact ⟨k + 1, by omega, by go_num, by rw [HT1.out], hI, hB⟩
          case measure => simp [intOf]; omega
        · by_cases q98 : (p[k].toNat : Int) = 98
          · have HT1 : Hid (txtB p n a b c (k + 1) = ((t ++ ⟨#[44, 32]⟩) ++ ⟨#[114]⟩) ++ decB b) := by show _ = _; rw [txtB, HT0.out, sepB, if_neg hz, hgd, pieceB, if_neg q97, if_pos q98]
            have f97 : ((p[k].toNat : Int) == 97) = false := by simp [q97]
            have f98 : ((p[k].toNat : Int) == 98) = true := by simp [q98]
            clear hz hgd q97 q98
            go_wp2_with fail
            refine (rnumber_any b _ hb HTX.out).mono ?_
            rintro e wn ⟨rfl, hD⟩
            replace hI := hI.on hD
            replace hB := hB.trans (hD.mono hB.size)
            clear i0 i1 i2 i3 hD
            have hds := decB_size b (by omega)
            go_wp2_with fail
            go_roundw
            case rel => exact ⟨k + 1, by omega, by go_num, by rw [HT1.out], hI, hB⟩
            case measure => simp [intOf]; omega
          · by_cases q114 : (p[k].toNat : Int) = 114
            · have HT1 : Hid (txtB p n a b c (k + 1) = ((t ++ ⟨#[44, 32]⟩) ++ ⟨#[114]⟩) ++ decB c) := by show _ = _; rw [txtB, HT0.out, sepB, if_neg hz, hgd, pieceB, if_neg q97, if_neg q98, if_pos q114]
              have f97 : ((p[k].toNat : Int) == 97) = false := by simp [q97]
              have f98 : ((p[k].toNat : Int) == 98) = false := by simp [q98]
              have f114 : ((p[k].toNat : Int) == 114) = true := by simp [q114]
              clear hz hgd q97 q98 q114
              go_wp2_with fail
              refine (rnumber_any c _ hc HTX.out).mono ?_
              rintro e wn ⟨rfl, hD⟩
              replace hI := hI.on hD
              replace hB := hB.trans (hD.mono hB.size)
              clear i0 i1 i2 i3 hD
              have hds := decB_size c (by omega)
              go_wp2_with fail
              go_roundw
              case rel => exact ⟨k + 1, by omega, by go_num, by rw [HT1.out], hI, hB⟩
              case measure => simp [intOf]; omega
            · have HT1 : Hid (txtB p n a b c (k + 1) = (t ++ ⟨#[44, 32]⟩) ++ decB c) := by show _ = _; rw [txtB, HT0.out, sepB, if_neg hz, hgd, pieceB, if_neg q97, if_neg q98, if_neg q114]
              have f97 : ((p[k].toNat : Int) == 97) = false := by simp [q97]
              have f98 : ((p[k].toNat : Int) == 98) = false := by simp [q98]
              have f114 : ((p[k].toNat : Int) == 114) = false := by simp [q114]
              clear hz hgd q97 q98 q114
              go_wp2_with fail
              refine (rnumber_any c _ hc HTX.out).mono ?_
              rintro e wn ⟨rfl, hD⟩
              replace hI := hI.on hD
              replace hB := hB.trans (hD.mono hB.size)
              clear i0 i1 i2 i3 hD
              have hds := decB_size c (by omega)
              go_wp2_with fail
              go_roundw
              case rel => exact ⟨k + 1, by omega, by go_num, by rw [HT1.out], hI, hB⟩
              case measure => simp [intOf]; omega
    · have hkn : k = p.size := by omega
      subst hkn
      have HT0 := Lib.hid ht
      clear ht
      go_wp2_with fail
      go_ret
      exact ⟨by rw [HT0.out]; rfl, hB⟩
set_option maxHeartbeats 8000000 in
set_option maxRecDepth 100000 in
theorem rtext7_no (o a b c : Int) (w : World) (h : rightI o a b c = false) : Calls Tryd.prog 15 #[.agg #[.int .i64 o, .int .i64 a, .int .i64 b, .int .i64 c]] w fun e w' => e = .returned (.string ⟨#[]⟩) ∧ Below w.heap.size w w' := by
  obtain ⟨w1, hw1⟩ : ∃ w', w.alloc (.cells #[.int .i64 o, .int .i64 a, .int .i64 b, .int .i64 c] 23) = w' := ⟨_, rfl⟩
  have hI : Box 23 w.heap.size [.int .i64 o, .int .i64 a, .int .i64 b, .int .i64 c] w1 := by rw [← hw1]; exact Box.new 23 [.int .i64 o, .int .i64 a, .int .i64 b, .int .i64 c] w
  have hD : Below w.heap.size w w1 := by rw [← hw1]; exact (Below.refl _ _).alloc (Nat.le_refl _) _
  have hB := hD
  clear hD
  go_enter Tryd.func15, Tryd.ntmps15
  have chI0 := hI.cell (j := 0) (v := .int .i64 o) rfl
  have chI1 := hI.cell (j := 1) (v := .int .i64 a) rfl
  have chI2 := hI.cell (j := 2) (v := .int .i64 b) rfl
  have chI3 := hI.cell (j := 3) (v := .int .i64 c) rfl
  go_wp2_with fail
  clear hw1 chI0 chI1 chI2 chI3
  refine (rright_val o a b c false w1 h).mono ?_
  rintro e w2 ⟨rfl, hD⟩
  replace hI := hI.on hD
  replace hB := hB.trans (hD.mono hB.size)
  clear hD
  go_wp2_with fail
  go_ret
  exact ⟨rfl, hB⟩
end Go.Proofs.YtojgngefgianpaaDoor
