/-
  The document's Put (written by gen_imC.py).
-/
import Derived.Test.YtfaedjpfbaiojaaImB
import Derived.Deep.RegionHeld3
import Derived.Lib.SmallJoins
namespace Go.Proofs.Ytfaedjpfbaiojaa
open Go.RowKit

/-- An image's bytes. -/
def putL (d : Int) (xs : List Int) : List UInt8 := [83, 69, 69, 68] ++ (wbytes [(xs.length : Int), d] ++ wbytes xs)
theorem put_eq (n : Nat) (d : Int) (xs : List Int) (hn : n = xs.length) : ((⟨#[83, 69, 69, 68]⟩ ++ ⟨(wbytes [(n : Int), d]).toArray⟩) ++ ⟨(wbytes xs).toArray⟩ : ByteArray) = ⟨(putL d xs).toArray⟩ := by
  subst hn
  apply ByteArray.ext
  apply Array.ext'
  rw [Go.Joins.data_append, Go.Joins.data_append]
  simp [putL]
theorem rright8_val (p : Option Addr) (n cap : Nat) (d : Int) (g : Bool) (w : World) (h : rightM n d = g) : Calls Try.prog 12 #[.agg #[.slice p n cap, .int .i64 d]] w fun e w' => e = .returned (.bool g) ∧ Below w.heap.size w w' := by
  subst h; exact rright8_any p n cap d w
theorem two_new (w : World) (t : TypeId) (n : Nat) (d : Int) : RdW (w.alloc (.cells #[.int .u32 (n : Int), .int .u32 d] t)).drew (.slice (some ⟨w.heap.size, 0, none⟩) 2 2) [(n : Int), d] := by
  refine ⟨some ⟨w.heap.size, 0, none⟩, 2, rfl, fun _ => ⟨w.heap.size, 0, rfl, ?_, fun k hk => ?_⟩⟩
  · show w.heap.size < (w.alloc _).heap.size; simp
  · show (w.alloc _).cell? _ = _
    rw [World.cell?_alloc_new]
    match k, hk with
    | 0, _ => rfl
    | 1, _ => rfl
theorem keepM {B b0 : Nat} {W w' : World} {v0_0 v0_1 : Value} (h : Below B W w') (g0 : b0 < B) (f : W.cell? ⟨b0, 0, none⟩ = some (v0_0) ∧ W.cell? ⟨b0, 1, none⟩ = some (v0_1)) : w'.cell? ⟨b0, 0, none⟩ = some (v0_0) ∧ w'.cell? ⟨b0, 1, none⟩ = some (v0_1) := by
  obtain ⟨f0, f1⟩ := f
  exact ⟨by rw [h.cell (p := ⟨_, _, none⟩) g0]; exact f0, by rw [h.cell (p := ⟨_, _, none⟩) g0]; exact f1⟩
set_option maxHeartbeats 8000000 in
set_option maxRecDepth 100000 in
theorem rput8_no (p : Option Addr) (n c : Nat) (d : Int) (w : World) (h : rightM n d = false) : Calls Try.prog 16 #[.agg #[.slice p n c, .int .i64 d]] w fun e w' => e = .returned (.tuple #[.string ⟨#[]⟩, .int .i64 1]) ∧ Below w.heap.size w w' := by
  have H := Lib.hid h
  clear h
  obtain ⟨w1, hw1⟩ : ∃ w', w.alloc (.cells #[.slice p n c, .int .i64 d] 24) = w' := ⟨_, rfl⟩
  have hI : Box 24 w.heap.size [.slice p n c, .int .i64 d] w1 := by rw [← hw1]; exact Box.new 24 [.slice p n c, .int .i64 d] w
  have hD : Below w.heap.size w w1 := by rw [← hw1]; exact (Below.refl _ _).alloc (Nat.le_refl _) _
  have hB := hD
  clear hD
  go_enter Try.func16, Try.ntmps16
  have chI0 := hI.cell (j := 0) (v := .slice p n c) rfl
  have chI1 := hI.cell (j := 1) (v := .int .i64 d) rfl
  go_wp2_with fail
  clear hw1 chI0 chI1
  refine (rright8_val p n c d false w1 H.out).mono ?_
  rintro e w2 ⟨rfl, hD⟩
  replace hI := hI.on hD
  replace hB := hB.trans (hD.mono hB.size)
  clear hD
  go_wp2_with fail
  refine bodyPost_ret (v := .tuple #[.string ⟨#[]⟩, .int .i64 1]) (by simp [results, Try.results16, go_sem]) rfl ⟨rfl, hB⟩
set_option maxHeartbeats 8000000 in
set_option maxRecDepth 100000 in
theorem rput8_yes (p : Option Addr) (n c : Nat) (d : Int) (xs : List Int) (w : World) (hn : n = xs.length) (hb : Bd xs) (hX : RdW w (.slice p n c) xs) (h : rightM n d = true) : Calls Try.prog 16 #[.agg #[.slice p n c, .int .i64 d]] w fun e w' => e = .returned (.tuple #[.string ⟨(putL d xs).toArray⟩, .int .i64 0]) ∧ Below w.heap.size w w' := by
  obtain ⟨hn0, hd0, hd1⟩ : n ≤ 16384 ∧ 0 ≤ d ∧ d ≤ 32768 := by unfold rightM at h; simp at h; omega
  have hwn : IntKind.u32.wrap (n : Int) = (n : Int) := by rw [IntKind.wrap_u32]; omega
  have hwd : IntKind.u32.wrap d = d := by rw [IntKind.wrap_u32]; omega
  have HX0 : Hid (xs.length ≤ 16384) := by show _ ≤ _; omega
  have HX1 : Hid (xs.length ≤ 1000000) := by show _ ≤ _; omega
  have HX2 := Lib.hid hb
  have H := Lib.hid h
  have HN := Lib.hid hn
  clear h hn hb
  obtain ⟨w1, hw1⟩ : ∃ w', w.alloc (.cells #[.slice p n c, .int .i64 d] 24) = w' := ⟨_, rfl⟩
  have hI : Box 24 w.heap.size [.slice p n c, .int .i64 d] w1 := by rw [← hw1]; exact Box.new 24 [.slice p n c, .int .i64 d] w
  have hD : Below w.heap.size w w1 := by rw [← hw1]; exact (Below.refl _ _).alloc (Nat.le_refl _) _
  replace hX := hX.on hD
  have hB := hD
  clear hD
  go_enter Try.func16, Try.ntmps16
  have chI0 := hI.cell (j := 0) (v := .slice p n c) rfl
  have chI1 := hI.cell (j := 1) (v := .int .i64 d) rfl
  go_wp2_with fail
  clear hw1 chI0 chI1
  refine (rright8_val p n c d true w1 H.out).mono ?_
  rintro e w2 ⟨rfl, hD⟩
  replace hI := hI.on hD
  replace hX := hX.on hD
  replace hB := hB.trans (hD.mono hB.size)
  clear hD
  have hXa : RdW w2.drew (.slice p n c) xs := hX
  have hAl : Below w2.drew.heap.size w2.drew (w2.alloc (.cells #[.int .u32 (n : Int), .int .u32 d] 35)).drew := (Below.refl _ _).alloc (Nat.le_refl _) _
  have hR2 : RdW (w2.alloc (.cells #[.int .u32 (n : Int), .int .u32 d] 35)).drew (.slice (some ⟨w2.heap.size, 0, none⟩) 2 2) [(n : Int), d] := two_new w2 35 n d
  have hb2 : Bd [(n : Int), d] := fun x hx => by simp at hx; omega
  have HB2 := Lib.hid hb2
  have HR2 := Lib.hid hR2
  clear hb2 hR2 hn0 hd0 hd1
  have hC1 := fun (t : ByteArray) => refBytes_rd (.slice (some ⟨w2.heap.size, 0, none⟩) 2 2) [(n : Int), d] t (w2.alloc (.cells #[.int .u32 (n : Int), .int .u32 d] 35)).drew (show 2 ≤ 1000000 by decide) HB2.out HR2.out
  obtain ⟨t1, ht1⟩ : ∃ t : ByteArray, t = ⟨(wbytes [(n : Int), d]).toArray⟩ := ⟨_, rfl⟩
  obtain ⟨t2, ht2⟩ : ∃ t : ByteArray, t = ⟨(wbytes xs).toArray⟩ := ⟨_, rfl⟩
  have hz1 : t1.size ≤ 8 := by rw [ht1]; show (wbytes _).toArray.size ≤ 8; rw [List.size_toArray, wbytes_length]; exact Nat.le_refl _
  have hz2 : t2.size ≤ 65536 := by rw [ht2]; show (wbytes _).toArray.size ≤ _; rw [List.size_toArray, wbytes_length]; have := HX0.out; omega
  have hq1 : ¬ 9223372036854775807 < 4 + t1.size := by omega
  have hq2 : ¬ 9223372036854775807 < 4 + t1.size + t2.size := by omega
  have HF : Hid ((⟨#[83, 69, 69, 68]⟩ ++ t1) ++ t2 = ⟨(putL d xs).toArray⟩) := by show _ = _; rw [ht1, ht2]; exact put_eq n d xs HN.out
  have HC1 := Lib.hid (hC1 t1 ht1)
  have HT2 := Lib.hid ht2
  clear hC1 ht1 ht2
  replace hI : Box 24 (w.heap.size) [.slice p n c, .int .i64 d] w2.drew := hI
  have HS0 : Hid (w2.drew.cell? ⟨w.heap.size, 0, none⟩ = some (.slice p n c) ∧ w2.drew.cell? ⟨w.heap.size, 1, none⟩ = some (.int .i64 d)) := ⟨hI.cell rfl, hI.cell rfl⟩
  have g0 := hI.lt
  replace hB : Below w.heap.size w w2.drew := hB.drew
  have hCur : Below w2.drew.heap.size w2.drew w2.drew := Below.refl _ _
  have hszB := hB.size
  clear hI
  go_wp2_with fail
  go_region_held3 (fun w' => w'.cell? ⟨w.heap.size, 0, none⟩ = some (.slice p n c) ∧ w'.cell? ⟨w.heap.size, 1, none⟩ = some (.int .i64 d))
    (first
      | exact keepM hCur g0 HS0.out
      | exact keepM hAl g0 HS0.out)
    (first
      | (go_at_call 21; (with_reducible refine (HC1.out).mono ?_); rintro e wb ⟨rfl, hP⟩; have hCur : Below w2.drew.heap.size w2.drew wb := hAl.trans (hP.mono hAl.size))
      | (go_at_call 21; (with_reducible refine (refBytes_rd (.slice p n c) xs t2 _ HX1.out HX2.out (hXa.on hCur) HT2.out).mono ?_); rintro e wb ⟨rfl, hP⟩; have hCur := hCur.trans (hP.mono hCur.size)))
  all_goals
    go_wp2_with fail
    refine bodyPost_ret (v := .tuple #[.string ((⟨#[83, 69, 69, 68]⟩ ++ t1) ++ t2), .int .i64 0]) (by simp [results, Try.results16, go_sem]) rfl ⟨by rw [HF.out], hB.trans (hCur.mono hszB)⟩
end Go.Proofs.Ytfaedjpfbaiojaa
