/-
  The contract of the code's padding.
-/
import Derived.Test.YtepcpjppogcjbaaDoorDgD
import Derived.Test.YtepcpjppogcjbaaDoorBytes
import Derived.Test.YtepcpjppogcjbaaDoorShS
import Derived.Test.YtepcpjppogcjbaaDoorShN
import Derived.Deep.LoopGhost
namespace Go.Proofs.YtepcpjppogcjbaaDoor
open Go.RowKit

theorem builder_on {B b : Nat} {L : List UInt8} {w w' : World} (h : Lib.IsBuilder 60 5 B b (Lib.byteCells L) w) (hb : Below w.heap.size w w') : Lib.IsBuilder 60 5 B b (Lib.byteCells L) w' := by
  have go : ∀ p, Lib.BuilderAt 60 5 B b p (Lib.byteCells L) w → Lib.BuilderAt 60 5 B b p (Lib.byteCells L) w' := by
    rintro p ⟨h1, v, h2, h3, h4⟩
    have hlt : b < w.heap.size := by
      rcases Nat.lt_or_ge b w.heap.size with q | q
      · exact q
      · rw [Array.getElem?_eq_none q] at h2; cases h2
    refine ⟨h1, v, by rw [hb.block b hlt]; exact h2, ⟨h3.1, ?_⟩, h4⟩
    rcases h3.2 with q | ⟨g, cap, cur, e1, e2, e3, e4⟩
    · exact Or.inl q
    · have hg : g < w.heap.size := by
        rcases Nat.lt_or_ge g w.heap.size with q | q
        · exact q
        · rw [Array.getElem?_eq_none q] at e3; cases e3
      exact Or.inr ⟨g, cap, cur, e1, e2, by rw [hb.block g hg]; exact e3, e4⟩
  rcases h with h | h
  · exact Or.inl (go _ h)
  · exact Or.inr (go _ h)
def padK (k : Nat) : List UInt8 := 128 :: List.replicate k 0
theorem padK_len (k : Nat) : (padK k).length = k + 1 := by simp [padK]
theorem padK_one (k : Nat) : Lib.byteCells (padK k) ++ [.int .u8 0] = Lib.byteCells (padK (k + 1)) := by
  simp [padK, Lib.byteCells, List.replicate_succ']
theorem len_named (B b : Nat) (L : List UInt8) (m : Int) (w : World) (h : Lib.IsBuilder 60 5 B b (Lib.byteCells L) w) (hm : (L.length : Int) = m) :
    Calls Tryd.prog 43 #[.pointer (some ⟨b, 0, none⟩)] w fun e w' => e = .returned (.int .i64 m) ∧ w = w' := by
  refine (len_any B b _ w h).mono ?_
  rintro e w' ⟨rfl, rfl⟩
  exact ⟨by rw [Lib.byteCells_length, hm], rfl⟩

theorem bytes_two (a c : Int) (t : ByteArray) (b cap : Nat) (w : World) (ha : isW a) (hc : isW c) (h : Arr .u32 22 b [a, c] w) (ht : t.data.toList = wbytes [a, c]) :
    Calls Tryd.prog 36 #[.slice (some ⟨b, 0, none⟩) 2 cap] w fun e w' => e = .returned (.string t) ∧ Below w.heap.size w w' := by
  rw [show t = ⟨(wbytes [a, c]).toArray⟩ by rw [← ht]]
  have hw : allW [a, c] := by
    intro x hx
    simp at hx
    rcases hx with rfl | rfl <;> assumption
  refine bytes_any (some ⟨b, 0, none⟩) [a, c] cap w (by show 2 ≤ 1000000; decide) (fun k hk => hw _ (List.getElem_mem hk)) (fun _ => ⟨b, 0, rfl, h.lt, fun k hk => ?_⟩)
  rw [Nat.zero_add, h.cell hk]
  simp [List.getD, List.getElem?_eq_getElem hk]
theorem str_cellsD (L : List UInt8) (t : ByteArray) (M : List UInt8) (h : t.data.toList = M) : Lib.byteCells L ++ Lib.strCells t = Lib.byteCells (L ++ M) := by
  subst h
  simp [Lib.byteCells, Lib.strCells]

set_option maxHeartbeats 4000000 in
theorem padding_any (n : Nat) (w : World) (hn : n ≤ 1000000) : Calls Tryd.prog 30 #[.int .i64 (n : Int)] w fun e w' => e = .returned (.string ⟨(padB n ++ wbytes [(n : Int), 0]).toArray⟩) ∧ Below w.heap.size w w' := by
  have HF := Lib.hid (Lib.fresh_isBuilder 60 5 w)
  have hW0 : Below w.heap.size w (w.alloc (.cells #[.pointer none, .slice none 0 0] 60)) := (Below.refl _ w).alloc (Nat.le_refl _) _
  go_enter Tryd.func30, Tryd.ntmps30
  go_wp2_with fail
  refine (writeByte_any w.heap.size w.heap.size [] 128 _ HF.out (by decide) hW0.size).mono ?_
  rintro e w1 ⟨rfl, hI, hB⟩
  have hI1 : Lib.IsBuilder 60 5 w.heap.size w.heap.size (Lib.byteCells (padK 0)) w1 := Or.inr hI
  have hW1 := hW0.trans hB
  clear hI hB hW0 HF
  go_wp2_with fail
  go_loopg [] (padN n) (fun gk wr => ∃ k : Nat, k + gk = padN n ∧ Lib.IsBuilder 60 5 w.heap.size w.heap.size (Lib.byteCells (padK k)) wr ∧ Below w.heap.size w wr)
  case atStart => exact ⟨0, by omega, hI1, hW1⟩
  case round =>
    clear hI1 hW1
    obtain ⟨k, hk, hI, hW⟩ := hrel
    have hpn := padN_lt n
    have hpd : padN n = (23 - n % 16) % 16 := rfl
    obtain ⟨m, hm⟩ : ∃ m : Int, ((padK k).length : Int) = m := ⟨_, rfl⟩
    have hmk : m = (k : Int) + 1 := by rw [← hm, padK_len]; omega
    have hm0 : 0 ≤ m := by omega
    have hm1 : m ≤ 20 := by omega
    by_cases hg : 0 < gk
    · have hc : (((n : Int) + m) % 16 != 8) = true := by simp; omega
      have HI := Lib.hid hI
      have HM := Lib.hid hm
      have HK := Lib.hid hmk
      clear hI hm hpd hmk
      go_wp2_with fail
      refine (len_named w.heap.size w.heap.size (padK k) m wr HI.out HM.out).mono ?_
      rintro e w2 ⟨rfl, rfl⟩
      go_wp2_with fail
      refine (writeByte_any w.heap.size w.heap.size (Lib.byteCells (padK k)) 0 wr HI.out (by rw [Lib.byteCells_length, padK_len]; omega) hW.size).mono ?_
      rw [padK_one]
      rintro e w3 ⟨rfl, hI3, hB3⟩
      have hI4 : Lib.IsBuilder 60 5 w.heap.size w.heap.size (Lib.byteCells (padK (k + 1))) w3 := Or.inr hI3
      go_wp2_with fail
      go_roundg (gk - 1)
      case measure => omega
      case rel => exact ⟨k + 1, by omega, hI4, hW.trans hB3⟩
    · have hc : (((n : Int) + m) % 16 != 8) = false := by simp; omega
      have hkn : k = padN n := by omega
      have HI := Lib.hid hI
      have HM := Lib.hid hm
      clear hI hm hpd hmk hg hk
      subst hkn
      have hn1 : (n : Int) ≤ 1000000 := by omega
      have hn2 : (n : Int) / 4294967296 = 0 := by omega
      go_wp2_with fail
      refine (len_named w.heap.size w.heap.size (padK (padN n)) m wr HI.out HM.out).mono ?_
      rintro e w2 ⟨rfl, rfl⟩
      go_wp2_with fail
      obtain ⟨t, ht⟩ : ∃ t : ByteArray, t.data.toList = wbytes [(n : Int), 0] := ⟨⟨(wbytes [(n : Int), 0]).toArray⟩, List.toList_toArray⟩
      have hts : t.size = 8 := by rw [← len_listH, ht, wbytes_length]; rfl
      have HT := Lib.hid ht
      have HTS := Lib.hid hts
      clear ht hts
      have hR : Arr .u32 22 wr.heap.size [(n : Int), 0] (wr.alloc (.cells #[.int .u32 (n : Int), .int .u32 0] 22)) := heap_alloc_new wr _
      have hW2 := hW.alloc hW.size (.cells #[.int .u32 (n : Int), .int .u32 0] 22)
      have HI2 := Lib.hid (builder_on HI.out ((Below.refl _ wr).alloc (Nat.le_refl _) (.cells #[.int .u32 (n : Int), .int .u32 0] 22)))
      refine (bytes_two n 0 t wr.heap.size 2 _ ⟨by omega, by omega⟩ ⟨by decide, by decide⟩ hR HT.out).mono ?_
      clear hR
      generalize wr.alloc (.cells #[.int .u32 (n : Int), .int .u32 0] 22) = w4 at *
      rintro e w5 ⟨rfl, hC⟩
      have HI3 := Lib.hid (builder_on HI2.out hC)
      have hW3 := hW2.trans (hC.mono hW2.size)
      clear HI2 HI hW2 hC hW
      go_wp2_with fail
      refine (writeString_any w.heap.size w.heap.size (Lib.byteCells (padK (padN n))) t w5 HI3.out (by rw [Lib.byteCells_length, padK_len, HTS.out]; omega) hW3.size).mono ?_
      rw [str_cellsD _ t _ HT.out]
      rintro e w6 ⟨rfl, hI6, hB6⟩
      have HI6 := Lib.hid (Or.inr hI6 : Lib.IsBuilder 60 5 w.heap.size w.heap.size (Lib.byteCells (padK (padN n) ++ wbytes [(n : Int), 0])) w6)
      have hW6 := hW3.trans hB6
      clear hI6 hB6 hW3 HI3
      go_wp2_with fail
      refine (string_any w.heap.size w.heap.size _ w6 HI6.out hW6.size).mono ?_
      rintro e w7 ⟨rfl, hB7⟩
      go_wp2_with fail
      go_ret
      exact ⟨rfl, hW6.trans hB7⟩
end Go.Proofs.YtepcpjppogcjbaaDoor
