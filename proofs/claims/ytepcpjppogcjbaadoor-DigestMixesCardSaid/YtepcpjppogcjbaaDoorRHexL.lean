/-
  The contract of the document's own Load: the lenient reading.
-/
import Derived.Test.YtepcpjppogcjbaaDoorRHexT
namespace Go.Proofs.YtepcpjppogcjbaaDoor
open Go.RowKit

/-- The slot that holds the higher digit: below 0, if there is none. -/
def hiI (h : Nat) : Int := if h = 16 then -1 else (h : Int)
theorem hiI_none {h : Nat} (q : hiI h < 0) : h = 16 := by
  unfold hiI at q
  split at q <;> omega
theorem hiI_some {h : Nat} (q : 0 ≤ hiI h) : h ≠ 16 ∧ hiI h = (h : Int) := by
  unfold hiI at q ⊢
  split at q
  · omega
  · rename_i r
    exact ⟨r, by rw [if_neg r]⟩
theorem dgt_le (c : UInt8) : dgt c ≤ 16 := by
  unfold dgt
  split
  · omega
  · split
    · omega
    · split <;> omega
theorem dI_none {c : UInt8} (q : dI c < 0) : dgt c = 16 := hiI_none (h := dgt c) q
theorem dI_some {c : UInt8} (q : 0 ≤ dI c) : dgt c ≠ 16 ∧ dI c = (dgt c : Int) := hiI_some (h := dgt c) q
theorem dI_bd (c : UInt8) : -1 ≤ dI c ∧ dI c ≤ 15 := by
  have := dgt_le c
  unfold dI
  split <;> omega
theorem hiI_bd {h : Nat} (q : h ≤ 16) : -1 ≤ hiI h ∧ hiI h ≤ 15 := by
  unfold hiI
  split <;> omega
/-- Where the loop stands: what is put out, and the state. -/
def LdAt (l : List UInt8) (k : Nat) (L : List UInt8) (nb : Bool) (h : Nat) : Prop := L.length ≤ k ∧ h ≤ 16 ∧ loadL l = L ++ ldF nb h (l.drop k)
theorem LdAt.skip {s : ByteArray} {k : Nat} {L : List UInt8} {nb nb' : Bool} {h : Nat} (q : LdAt s.data.toList k L nb h) (hk : k < s.size) (hn : noteB nb s[k] = nb') (hs : nb' = true ∨ dgt s[k] = 16) : LdAt s.data.toList (k + 1) L nb' h := by
  obtain ⟨q1, q2, q3⟩ := q
  refine ⟨by omega, q2, ?_⟩
  rw [q3, drop_one s k hk, ldF, hn, if_pos hs]
theorem LdAt.first {s : ByteArray} {k : Nat} {L : List UInt8} {nb : Bool} {h : Nat} (q : LdAt s.data.toList k L nb h) (hk : k < s.size) (hn : noteB nb s[k] = false) (hd : dgt s[k] ≠ 16) (hh : h = 16) : LdAt s.data.toList (k + 1) L false (dgt s[k]) := by
  obtain ⟨q1, q2, q3⟩ := q
  refine ⟨by omega, dgt_le _, ?_⟩
  rw [q3, drop_one s k hk, ldF, hn, if_neg (by simp [hd]), if_pos hh]
theorem LdAt.second {s : ByteArray} {k : Nat} {L : List UInt8} {nb : Bool} {h : Nat} (q : LdAt s.data.toList k L nb h) (hk : k < s.size) (hn : noteB nb s[k] = false) (hd : dgt s[k] ≠ 16) (hh : h ≠ 16) : LdAt s.data.toList (k + 1) (L ++ [UInt8.ofNat (16 * h + dgt s[k])]) false 16 := by
  obtain ⟨q1, q2, q3⟩ := q
  refine ⟨by rw [List.length_append]; simp; omega, Nat.le_refl _, ?_⟩
  rw [q3, drop_one s k hk, ldF, hn, if_neg (by simp [hd]), if_neg hh]
  simp
theorem ownsC_one {B : Nat} {v : Value} {L : List UInt8} {y : Int} {x : UInt8} {w : World} (hy : y = (x.toNat : Int)) (h : w.ownsRow B 5 1 v (L.length + 1) (Lib.byteCells L ++ [.int .u8 y])) : OwnsC B v (L ++ [x]) w := by
  subst hy
  unfold OwnsC
  rw [show (L ++ [x]).length = L.length + 1 by simp, show Lib.byteCells (L ++ [x]) = Lib.byteCells L ++ [.int .u8 (x.toNat : Int)] by simp [Lib.byteCells]]
  exact h
theorem noteB_hash (nb : Bool) {c : UInt8} (h : c.toNat = 35) : noteB nb c = true := by unfold noteB; rw [if_pos h]
theorem noteB_line (nb : Bool) {c : UInt8} (h : c.toNat = 10) : noteB nb c = false := by unfold noteB; rw [if_neg (by omega), if_pos h]
theorem noteB_else (nb : Bool) {c : UInt8} (h : c.toNat ≠ 35) (h' : c.toNat ≠ 10) : noteB nb c = nb := by unfold noteB; rw [if_neg h, if_neg h']

set_option maxHeartbeats 2000000 in
set_option maxRecDepth 100000 in
theorem refLoad_any (s : ByteArray) (w : World) (hs : s.size ≤ 1000000) :
    Calls Tryd.prog 54 #[.string s] w fun e w' => e = .returned (.string ⟨(loadL s.data.toList).toArray⟩) ∧ Below w.heap.size w w' := by
  obtain ⟨i0, hi, hz0, hz1, hz2⟩ := info_parts info_u8h
  go_enter Tryd.func54, Tryd.ntmps54
  go_wp2
  go_loopw [3, 4, 5, 6] (fun v nt hg i wr => ∃ (k : Nat) (L : List UInt8) (nb : Bool) (h : Nat) (hv : Int), k ≤ s.size ∧ i = .int .i64 k ∧ nt = .bool nb ∧ hg = .int .i64 hv ∧ -1 ≤ hv ∧ hv ≤ 15 ∧ Hid (hv = hiI h) ∧ OwnsC w.heap.size v L wr ∧ Hid (LdAt s.data.toList k L nb h) ∧ Below w.heap.size w wr) (fun _ _ _ i _ => s.size - (intOf i).toNat)
  case atStart => exact ⟨0, [], false, 16, -1, Nat.zero_le _, rfl, rfl, rfl, by omega, by omega, rfl, OwnsC.nil _ _, ⟨Nat.le_refl _, Nat.le_refl _, rfl⟩, Below.refl _ _⟩
  case round =>
    obtain ⟨k, L, nb, h, hv, hk, rfl, rfl, rfl, hv0, hv1, HV, hown, HL, hB⟩ := hrel
    by_cases hlt : k < s.size
    · have hlen : L.length ≤ 1000000 := by have := HL.out.1; omega
      have hown' : wr.ownsRow w.heap.size 5 1 u3 L.length (Lib.byteCells L) := hown
      obtain ⟨hd0, hd1⟩ := dI_bd s[k]
      by_cases c35 : s[k].toNat = 35
      · have t1 : ((s[k].toNat : Int) == 35) = true := by simp [c35]
        have t2 : ((s[k].toNat : Int) == 10) = false := by simp [c35]
        have HN := Lib.hid (HL.out.skip hlt (noteB_hash nb c35) (Or.inl rfl))
        clear c35
        go_wp2_with fail
        refine (digit_any s[k] _).mono ?_
        rintro e w1 ⟨rfl, rfl⟩
        clear t1 t2
        go_wp2_with fail
        go_roundw
        case rel => exact ⟨k + 1, L, true, h, hv, by omega, by go_num, rfl, rfl, hv0, hv1, HV, hown, HN, hB⟩
        case measure => simp [intOf]; omega
      · by_cases c10 : s[k].toNat = 10
        · have t1 : ((s[k].toNat : Int) == 35) = false := by simp [c10]
          have t2 : ((s[k].toNat : Int) == 10) = true := by simp [c10]
          have hdn : dI s[k] = -1 := dI_no _ (Or.inl (by omega))
          have HN := Lib.hid (HL.out.skip hlt (noteB_line nb c10) (Or.inr (dI_none (by rw [hdn]; decide))))
          clear c35 c10
          go_wp2_with fail
          refine (digit_any s[k] _).mono ?_
          rw [hdn]
          rintro e w1 ⟨rfl, rfl⟩
          clear t1 t2 hdn
          go_wp2_with fail
          go_roundw
          case rel => exact ⟨k + 1, L, false, h, hv, by omega, by go_num, rfl, rfl, hv0, hv1, HV, hown, HN, hB⟩
          case measure => simp [intOf]; omega
        · have t1 : ((s[k].toNat : Int) == 35) = false := by simp; omega
          have t2 : ((s[k].toNat : Int) == 10) = false := by simp; omega
          have HNE := Lib.hid (noteB_else nb c35 c10)
          clear c35 c10
          obtain ⟨d, hd⟩ : ∃ d : Int, dI s[k] = d := ⟨_, rfl⟩
          have HD := Lib.hid hd
          rw [hd] at hd0 hd1
          clear hd
          cases nb with
          | true =>
            have HN := Lib.hid (HL.out.skip hlt HNE.out (Or.inl rfl))
            go_wp2_with fail
            refine (digit_any s[k] _).mono ?_
            rw [HD.out]
            rintro e w1 ⟨rfl, rfl⟩
            clear t1 t2
            go_wp2_with fail
            go_roundw
            case rel => exact ⟨k + 1, L, true, h, hv, by omega, by go_num, rfl, rfl, hv0, hv1, HV, hown, HN, hB⟩
            case measure => simp [intOf]; omega
          | false =>
            by_cases hdn : d < 0
            · have HN := Lib.hid (HL.out.skip hlt HNE.out (Or.inr (dI_none (by rw [HD.out]; exact hdn))))
              go_wp2_with fail
              refine (digit_any s[k] _).mono ?_
              rw [HD.out]
              rintro e w1 ⟨rfl, rfl⟩
              clear t1 t2
              go_wp2_with fail
              go_roundw
              case rel => exact ⟨k + 1, L, false, h, hv, by omega, by go_num, rfl, rfl, hv0, hv1, HV, hown, HN, hB⟩
              case measure => simp [intOf]; omega
            · have hdp : 0 ≤ d := by omega
              clear hdn
              have HDS := Lib.hid (dI_some (c := s[k]) (by rw [HD.out]; exact hdp))
              by_cases hvn : hv < 0
              · have HN := Lib.hid (HL.out.first hlt HNE.out HDS.out.1 (hiI_none (by rw [← HV.out]; exact hvn)))
                have HNV : Hid (d = hiI (dgt s[k])) := HD.out.symm
                go_wp2_with fail
                refine (digit_any s[k] _).mono ?_
                rw [HD.out]
                rintro e w1 ⟨rfl, rfl⟩
                clear t1 t2
                go_wp2_with fail
                go_roundw
                case rel => exact ⟨k + 1, L, false, dgt s[k], d, by omega, by go_num, rfl, rfl, by omega, by omega, HNV, hown, HN, hB⟩
                case measure => simp [intOf]; omega
              · have hvp : 0 ≤ hv := by omega
                clear hvn
                have HHS := Lib.hid (hiI_some (h := h) (by rw [← HV.out]; exact hvp))
                have HN := Lib.hid (HL.out.second hlt HNE.out HDS.out.1 HHS.out.1)
                have HY : Hid (16 * hv + d = ((UInt8.ofNat (16 * h + dgt s[k])).toNat : Int)) := by
                  show 16 * hv + d = _
                  have e1 := HHS.out.2
                  have e2 := HDS.out.2
                  rw [← HV.out] at e1
                  rw [HD.out] at e2
                  rw [UInt8.toNat_ofNat', Nat.mod_eq_of_lt (by omega)]; omega
                go_wp2_with fail
                refine (digit_any s[k] _).mono ?_
                rw [HD.out]
                rintro e w1 ⟨rfl, rfl⟩
                clear t1 t2
                go_wp2_with (at_builtin; refine wpList_append_own _ rfl _ _ 39 rfl w.heap.size 5 i0 (.int .u8 0) 1 1 Tryd.underlying39 hi hz0 hz1 hz2 rfl (by decide) _ _ _ rfl (hown'.alloc _) ⟨wr.heap.size, 0, none⟩ 1 1 [.int .u8 (16 * hv + d)] rfl rfl ?c1 ?c2 ?c3 ?c4 ?c5 ?_)
                case c1 =>
                  intro t u hu
                  match t, hu with
                  | 0, hu => simp at hu; subst hu; simp [Addr.add]
                case c2 => intro u hu; simp at hu; subst hu; rfl
                case c3 => unfold maxLen; omega
                case c4 => omega
                case c5 => have := hB.size; simp; omega
                intro v' w2 hown2 hgrow _
                have hB1 : Below w.heap.size w w2 := (hB.alloc hB.size _).grown hgrow (by have := hB.size; simp; omega) (fun k hk => (hown'.lt k hk).1)
                have hown3 := ownsC_one HY.out hown2
                clear hgrow hown2 hown hown' hB
                go_wp2
                go_roundw
                case rel => exact ⟨k + 1, _, false, 16, -1, by omega, by go_num, rfl, rfl, by omega, by omega, rfl, hown3, HN, hB1⟩
                case measure => simp [intOf]; omega
    · have : k = s.size := by omega
      subst this
      have HL' : Hid (loadL s.data.toList = L) := by
        have q := HL.out.2.2
        rw [List.drop_eq_nil_of_le (by rw [Array.length_toList]; exact Nat.le_refl _)] at q
        show loadL s.data.toList = L
        rw [q]; simp [ldF]
      have hcv := ownsC_string hown
      go_wp2
      go_ret
      exact ⟨by rw [HL'.out]; rfl, hB⟩
end Go.Proofs.YtepcpjppogcjbaaDoor
