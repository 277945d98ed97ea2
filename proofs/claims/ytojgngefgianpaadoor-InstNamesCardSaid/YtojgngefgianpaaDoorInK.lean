/-
  InstNames and InstApart: the walks (written by gen_inK.py).
-/
import Derived.Test.YtojgngefgianpaaDoorInJ
namespace Go.Proofs.YtojgngefgianpaaDoor
open Go.RowKit

theorem cname_val (o : Int) (n : ByteArray) (w : World) (hO : OpsOk w) (hn : nameB o = n) : Calls Tryd.prog 18 #[.int .i64 o] w fun e w' => e = .returned (.string n) ∧ Below w.heap.size w w' := by
  subst hn; exact cname_any o w hO
theorem rname_val (o : Int) (n : ByteArray) (w : World) (hn : nameB o = n) : Calls Tryd.prog 20 #[.int .i64 o] w fun e w' => e = .returned (.string n) ∧ w = w' := by
  subst hn; exact rname_any o w
theorem cop_val (s : ByteArray) (k : Int) (w : World) (hO : OpsOk w) (hk : opOf s = k) : Calls Tryd.prog 19 #[.string s] w fun e w' => e = .returned (.int .i64 k) ∧ Below w.heap.size w w' := by
  subst hk; exact cop_any s w hO
theorem rop_val (s : ByteArray) (k : Int) (w : World) (hk : opOf s = k) : Calls Tryd.prog 21 #[.string s] w fun e w' => e = .returned (.int .i64 k) ∧ w = w' := by
  subst hk; exact rop_any s w
theorem name_ne (o : Int) (h1 : 1 ≤ o) (h2 : o ≤ 27) : (nameB o).toList.isEmpty = false := by
  rcases op_cases o h1 h2 with rfl | rfl | rfl | rfl | rfl | rfl | rfl | rfl | rfl | rfl | rfl | rfl | rfl | rfl | rfl | rfl | rfl | rfl | rfl | rfl | rfl | rfl | rfl | rfl | rfl | rfl | rfl <;> (rw [ByteArray.toList_eq]; rfl)
set_option maxHeartbeats 8000000 in
set_option maxRecDepth 100000 in
theorem names_long (p : Int) (s : ByteArray) (w : World) (hs : 100 < s.size) (hO : OpsOk w) (hT : PowOk w) : Calls Tryd.prog 5 #[.int .i64 p, .string s] w fun e w' => e = .returned (.bool true) ∧ Below w.heap.size w w' := by
  have hlen : decide ((100 : Int) < (s.size : Int)) = true := decide_eq_true (by omega)
  clear hs
  go_enter Tryd.func5, Tryd.ntmps5
  go_wp2_with fail
  refine (alive_any w hO hT).mono ?_
  rintro e w1 ⟨rfl, hD⟩
  replace hO := hO.on hD
  replace hT := hT.on hD
  have hB := hD
  clear hD
  go_wp2_with fail
  go_ret
  exact ⟨rfl, hB⟩
set_option maxHeartbeats 8000000 in
set_option maxRecDepth 100000 in
theorem names_00 (p : Int) (s : ByteArray) (w : World) (hs : s.size ≤ 100) (hO : OpsOk w) (hT : PowOk w) (hn : nameB p = ⟨#[]⟩) (hk : opOf s = 0) : Calls Tryd.prog 5 #[.int .i64 p, .string s] w fun e w' => e = .returned (.bool true) ∧ Below w.heap.size w w' := by
  have hlen : decide ((100 : Int) < (s.size : Int)) = false := decide_eq_false (by omega)
  clear hs
  have HN := Lib.hid hn
  have HK := Lib.hid hk
  clear hn hk
  go_enter Tryd.func5, Tryd.ntmps5
  go_wp2_with fail
  refine (alive_any w hO hT).mono ?_
  rintro e w1 ⟨rfl, hD⟩
  replace hO := hO.on hD
  replace hT := hT.on hD
  have hB := hD
  clear hD
  go_wp2_with fail
  refine (cname_val p ⟨#[]⟩ w1 hO HN.out).mono ?_
  rintro e w2 ⟨rfl, hD⟩
  replace hO := hO.on hD
  replace hT := hT.on hD
  replace hB := hB.trans (hD.mono hB.size)
  clear hD
  go_wp2_with fail
  refine (cop_val s 0 w2 hO HK.out).mono ?_
  rintro e w3 ⟨rfl, hD⟩
  replace hO := hO.on hD
  replace hT := hT.on hD
  replace hB := hB.trans (hD.mono hB.size)
  clear hD
  go_wp2_with fail
  refine (rname_val p ⟨#[]⟩ w3 HN.out).mono ?_
  rintro e wr ⟨rfl, rfl⟩
  go_wp2_with fail
  refine (rop_val s 0 w3 HK.out).mono ?_
  rintro e wr ⟨rfl, rfl⟩
  go_wp2_with fail
  go_ret
  exact ⟨rfl, hB⟩
set_option maxHeartbeats 8000000 in
set_option maxRecDepth 100000 in
theorem names_01 (p : Int) (s : ByteArray) (k : Int) (m : ByteArray) (w : World) (hs : s.size ≤ 100) (hO : OpsOk w) (hT : PowOk w) (hn : nameB p = ⟨#[]⟩) (hk : opOf s = k) (hk0 : (k == (0 : Int)) = false) (hm : nameB k = m) (hms : (m.toList == s.toList) = true) : Calls Tryd.prog 5 #[.int .i64 p, .string s] w fun e w' => e = .returned (.bool true) ∧ Below w.heap.size w w' := by
  have hlen : decide ((100 : Int) < (s.size : Int)) = false := decide_eq_false (by omega)
  clear hs
  have HN := Lib.hid hn
  have HK := Lib.hid hk
  clear hn hk
  have HM := Lib.hid hm
  clear hm
  go_enter Tryd.func5, Tryd.ntmps5
  go_wp2_with fail
  refine (alive_any w hO hT).mono ?_
  rintro e w1 ⟨rfl, hD⟩
  replace hO := hO.on hD
  replace hT := hT.on hD
  have hB := hD
  clear hD
  go_wp2_with fail
  refine (cname_val p ⟨#[]⟩ w1 hO HN.out).mono ?_
  rintro e w2 ⟨rfl, hD⟩
  replace hO := hO.on hD
  replace hT := hT.on hD
  replace hB := hB.trans (hD.mono hB.size)
  clear hD
  go_wp2_with fail
  refine (cop_val s k w2 hO HK.out).mono ?_
  rintro e w3 ⟨rfl, hD⟩
  replace hO := hO.on hD
  replace hT := hT.on hD
  replace hB := hB.trans (hD.mono hB.size)
  clear hD
  go_wp2_with fail
  refine (rname_val p ⟨#[]⟩ w3 HN.out).mono ?_
  rintro e wr ⟨rfl, rfl⟩
  go_wp2_with fail
  refine (rop_val s k w3 HK.out).mono ?_
  rintro e wr ⟨rfl, rfl⟩
  go_wp2_with fail
  refine (cname_val k m w3 hO HM.out).mono ?_
  rintro e w4 ⟨rfl, hD⟩
  replace hO := hO.on hD
  replace hT := hT.on hD
  replace hB := hB.trans (hD.mono hB.size)
  clear hD
  go_wp2_with fail
  go_ret
  exact ⟨rfl, hB⟩
set_option maxHeartbeats 8000000 in
set_option maxRecDepth 100000 in
theorem names_10 (p : Int) (s : ByteArray) (n : ByteArray) (w : World) (hs : s.size ≤ 100) (hO : OpsOk w) (hT : PowOk w) (hn : nameB p = n) (hk : opOf s = 0) (hne : n.toList.isEmpty = false) (hp : opOf n = p) : Calls Tryd.prog 5 #[.int .i64 p, .string s] w fun e w' => e = .returned (.bool true) ∧ Below w.heap.size w w' := by
  have hlen : decide ((100 : Int) < (s.size : Int)) = false := decide_eq_false (by omega)
  clear hs
  have HN := Lib.hid hn
  have HK := Lib.hid hk
  clear hn hk
  have HP := Lib.hid hp
  clear hp
  go_enter Tryd.func5, Tryd.ntmps5
  go_wp2_with fail
  refine (alive_any w hO hT).mono ?_
  rintro e w1 ⟨rfl, hD⟩
  replace hO := hO.on hD
  replace hT := hT.on hD
  have hB := hD
  clear hD
  go_wp2_with fail
  refine (cname_val p n w1 hO HN.out).mono ?_
  rintro e w2 ⟨rfl, hD⟩
  replace hO := hO.on hD
  replace hT := hT.on hD
  replace hB := hB.trans (hD.mono hB.size)
  clear hD
  go_wp2_with fail
  refine (cop_val s 0 w2 hO HK.out).mono ?_
  rintro e w3 ⟨rfl, hD⟩
  replace hO := hO.on hD
  replace hT := hT.on hD
  replace hB := hB.trans (hD.mono hB.size)
  clear hD
  go_wp2_with fail
  refine (rname_val p n w3 HN.out).mono ?_
  rintro e wr ⟨rfl, rfl⟩
  go_wp2_with fail
  refine (rop_val s 0 w3 HK.out).mono ?_
  rintro e wr ⟨rfl, rfl⟩
  go_wp2_with fail
  refine (cop_val n p w3 hO HP.out).mono ?_
  rintro e w4 ⟨rfl, hD⟩
  replace hO := hO.on hD
  replace hT := hT.on hD
  replace hB := hB.trans (hD.mono hB.size)
  clear hD
  go_wp2_with fail
  go_ret
  exact ⟨rfl, hB⟩
set_option maxHeartbeats 8000000 in
set_option maxRecDepth 100000 in
theorem names_11 (p : Int) (s : ByteArray) (n : ByteArray) (k : Int) (m : ByteArray) (w : World) (hs : s.size ≤ 100) (hO : OpsOk w) (hT : PowOk w) (hn : nameB p = n) (hk : opOf s = k) (hne : n.toList.isEmpty = false) (hp : opOf n = p) (hk0 : (k == (0 : Int)) = false) (hm : nameB k = m) (hms : (m.toList == s.toList) = true) : Calls Tryd.prog 5 #[.int .i64 p, .string s] w fun e w' => e = .returned (.bool true) ∧ Below w.heap.size w w' := by
  have hlen : decide ((100 : Int) < (s.size : Int)) = false := decide_eq_false (by omega)
  clear hs
  have HN := Lib.hid hn
  have HK := Lib.hid hk
  clear hn hk
  have HP := Lib.hid hp
  clear hp
  have HM := Lib.hid hm
  clear hm
  go_enter Tryd.func5, Tryd.ntmps5
  go_wp2_with fail
  refine (alive_any w hO hT).mono ?_
  rintro e w1 ⟨rfl, hD⟩
  replace hO := hO.on hD
  replace hT := hT.on hD
  have hB := hD
  clear hD
  go_wp2_with fail
  refine (cname_val p n w1 hO HN.out).mono ?_
  rintro e w2 ⟨rfl, hD⟩
  replace hO := hO.on hD
  replace hT := hT.on hD
  replace hB := hB.trans (hD.mono hB.size)
  clear hD
  go_wp2_with fail
  refine (cop_val s k w2 hO HK.out).mono ?_
  rintro e w3 ⟨rfl, hD⟩
  replace hO := hO.on hD
  replace hT := hT.on hD
  replace hB := hB.trans (hD.mono hB.size)
  clear hD
  go_wp2_with fail
  refine (rname_val p n w3 HN.out).mono ?_
  rintro e wr ⟨rfl, rfl⟩
  go_wp2_with fail
  refine (rop_val s k w3 HK.out).mono ?_
  rintro e wr ⟨rfl, rfl⟩
  go_wp2_with fail
  refine (cop_val n p w3 hO HP.out).mono ?_
  rintro e w4 ⟨rfl, hD⟩
  replace hO := hO.on hD
  replace hT := hT.on hD
  replace hB := hB.trans (hD.mono hB.size)
  clear hD
  go_wp2_with fail
  refine (cname_val k m w4 hO HM.out).mono ?_
  rintro e w5 ⟨rfl, hD⟩
  replace hO := hO.on hD
  replace hT := hT.on hD
  replace hB := hB.trans (hD.mono hB.size)
  clear hD
  go_wp2_with fail
  go_ret
  exact ⟨rfl, hB⟩
theorem names_walk (p : Int) (s : ByteArray) (w : World) (hO : OpsOk w) (hT : PowOk w) : Calls Tryd.prog 5 #[.int .i64 p, .string s] w fun e w' => e = .returned (.bool true) ∧ Below w.heap.size w w' := by
  by_cases hs : 100 < s.size
  · exact names_long p s w hs hO hT
  have hs : s.size ≤ 100 := by omega
  by_cases hp : p < 1 ∨ 27 < p
  · by_cases hk : opOf s = 0
    · exact names_00 p s w hs hO hT (nameB_no p hp) hk
    · have hm := (opGo_name s 27 1).resolve_left hk
      exact names_01 p s (opOf s) (nameB (opOf s)) w hs hO hT (nameB_no p hp) rfl (by simpa using hk) rfl (by have h : (nameB (opOf s)).toList = s.toList := hm; rw [h]; exact beq_self_eq_true _)
  · by_cases hk : opOf s = 0
    · exact names_10 p s (nameB p) w hs hO hT rfl hk (name_ne p (by omega) (by omega)) (opOf_name p (by omega) (by omega))
    · have hm := (opGo_name s 27 1).resolve_left hk
      exact names_11 p s (nameB p) (opOf s) (nameB (opOf s)) w hs hO hT rfl rfl (name_ne p (by omega) (by omega)) (opOf_name p (by omega) (by omega)) (by simpa using hk) rfl (by have h : (nameB (opOf s)).toList = s.toList := hm; rw [h]; exact beq_self_eq_true _)
end Go.Proofs.YtojgngefgianpaaDoor
