/-
  The law SkipMeet, walked. (written by wip/gen/law07.py)
-/
import Derived.Test.YtnmljjmaejmlfaaLaw07
namespace Go.Proofs.Ytnmljjmaejmlfaa
open Go.RowKit

set_option maxRecDepth 100000 in
set_option maxHeartbeats 8000000 in
theorem skipMeet_n (p : Option Addr) (n cp : Nat) (l : List Nd) (a b c : Int) (w : World) (h : SlE Ene w (.slice p n cp) l) (hl : l.length = n) :
    Calls Try.prog 6 #[.agg (tr ⟨⟨p, n, cp⟩⟩), .int .i64 a, .int .i64 b, .int .i64 c] w fun e w' => e = .returned (.bool true) ∧ Below w.heap.size w w' := by
  have HMay := Lib.hid (fun W (g : SlE Ene W (.slice p n cp) l) => treeMay ⟨p, n, cp⟩ l W g)
  have V : Hid (Tw w (w.alloc (.cells (tr ⟨⟨p, n, cp⟩⟩) 24)) w.heap.size ⟨p, n, cp⟩ l) := tw_one h
  obtain ⟨W0, hW0⟩ : ∃ W0, W0 = w.alloc (.cells (tr ⟨⟨p, n, cp⟩⟩) 24) := ⟨_, rfl⟩
  rw [← hW0] at V
  have A := V
  have HW := Lib.hid hW0
  have HL := Lib.hid hl
  clear V hW0 h hl
  go_enter Try.func6, Try.ntmps6
  go_wp2_with fail
  rw [← HW.out]
  refine (awake_any _).mono ?_
  rintro e w1 ⟨rfl, g⟩
  replace A := Lib.hid (A.out.keep g)
  clear g
  have z1 := A.out.z1
  have z0 := A.out.z0
  rw [sv_mk] at z0
  go_wp2_with fail
  refine (HMay.out _ A.out.s).mono ?_
  rintro e w2 ⟨rfl, g⟩
  replace A := Lib.hid (A.out.keep g)
  clear g
  replace z1 := A.out.z1
  replace z0 := A.out.z0
  rw [sv_mk] at z0
  clear HMay
  by_cases hm : MayT l
  case neg =>
    rw [decide_eq_false hm]
    clear hm
    go_wp2_with fail
    go_ret
    exact ⟨rfl, A.out.g⟩
  rw [decide_eq_true hm]
  have HN : Hid (n ≤ 12) := by show n ≤ 12; have := hm.le; have := HL.out; omega
  have HM := Lib.hid hm
  by_cases ha0 : a < 0
  · have ha0i : decide (a < 0) = true := decide_eq_true (ha0)
    clear ha0
    go_wp2_with fail
    go_ret
    exact ⟨rfl, A.out.g⟩
  have ha0i : decide (a < 0) = false := decide_eq_false (ha0)
  by_cases hb0 : b < 0
  · have hb0i : decide (b < 0) = true := decide_eq_true (hb0)
    clear hb0
    go_wp2_with fail
    go_ret
    exact ⟨rfl, A.out.g⟩
  have hb0i : decide (b < 0) = false := decide_eq_false (hb0)
  by_cases hc0 : c < 0
  · have hc0i : decide (c < 0) = true := decide_eq_true (hc0)
    clear hc0
    go_wp2_with fail
    go_ret
    exact ⟨rfl, A.out.g⟩
  have hc0i : decide (c < 0) = false := decide_eq_false (hc0)
  by_cases ha1 : (n : Int) ≤ a
  · have ha1i : decide ((n : Int) ≤ a) = true := decide_eq_true (ha1)
    clear ha1
    go_wp2_with fail
    go_ret
    exact ⟨rfl, A.out.g⟩
  have ha1i : decide ((n : Int) ≤ a) = false := decide_eq_false (ha1)
  by_cases hb1 : (n : Int) ≤ b
  · have hb1i : decide ((n : Int) ≤ b) = true := decide_eq_true (hb1)
    clear hb1
    go_wp2_with fail
    go_ret
    exact ⟨rfl, A.out.g⟩
  have hb1i : decide ((n : Int) ≤ b) = false := decide_eq_false (hb1)
  by_cases hc1 : (n : Int) ≤ c
  · have hc1i : decide ((n : Int) ≤ c) = true := decide_eq_true (hc1)
    clear hc1
    go_wp2_with fail
    go_ret
    exact ⟨rfl, A.out.g⟩
  have hc1i : decide ((n : Int) ≤ c) = false := decide_eq_false (hc1)
  obtain ⟨a, rfl⟩ : ∃ a' : Nat, a = a' := ⟨a.toNat, by omega⟩
  have ha : a < l.length := by have := HL.out; omega
  have Ha := Lib.hid ha
  have ha1n : decide (n ≤ a) = false := decide_eq_false (by omega)
  obtain ⟨b, rfl⟩ : ∃ b' : Nat, b = b' := ⟨b.toNat, by omega⟩
  have hb : b < l.length := by have := HL.out; omega
  have Hb := Lib.hid hb
  have hb1n : decide (n ≤ b) = false := decide_eq_false (by omega)
  obtain ⟨c, rfl⟩ : ∃ c' : Nat, c = c' := ⟨c.toNat, by omega⟩
  have hc : c < l.length := by have := HL.out; omega
  have Hc := Lib.hid hc
  have hc1n : decide (n ≤ c) = false := decide_eq_false (by omega)
  obtain ⟨m, e, hml, h1, h2, h3⟩ := meet_spec hm ha hb
  have hme := meet_is hm ha hb
  rw [e] at hme
  have HMab := Lib.hid (fun W (g : SlE Ene W (.slice p n cp) l) => skipMeet ⟨p, n, cp⟩ l (a : Int) (b : Int) W g)
  rw [meetZ_nat hm ha hb, e] at HMab
  have HMba := Lib.hid (fun W (g : SlE Ene W (.slice p n cp) l) => skipMeet ⟨p, n, cp⟩ l (b : Int) (a : Int) W g)
  rw [meetZ_nat hm hb ha, meet_comm, e] at HMba
  have HAma := Lib.hid (fun W (g : SlE Ene W (.slice p n cp) l) => treeAbove ⟨p, n, cp⟩ l (m : Int) (a : Int) W g)
  rw [aboveZ_nat hm hml ha] at HAma
  rw [h1] at HAma
  have HAmb := Lib.hid (fun W (g : SlE Ene W (.slice p n cp) l) => treeAbove ⟨p, n, cp⟩ l (m : Int) (b : Int) W g)
  rw [aboveZ_nat hm hml hb] at HAmb
  rw [h2] at HAmb
  have HAab := Lib.hid (fun W (g : SlE Ene W (.slice p n cp) l) => treeAbove ⟨p, n, cp⟩ l (a : Int) (b : Int) W g)
  rw [aboveZ_nat hm ha hb] at HAab
  have HAca := Lib.hid (fun W (g : SlE Ene W (.slice p n cp) l) => treeAbove ⟨p, n, cp⟩ l (c : Int) (a : Int) W g)
  rw [aboveZ_nat hm hc ha] at HAca
  have HAcb := Lib.hid (fun W (g : SlE Ene W (.slice p n cp) l) => treeAbove ⟨p, n, cp⟩ l (c : Int) (b : Int) W g)
  rw [aboveZ_nat hm hc hb] at HAcb
  have HAcm := Lib.hid (fun W (g : SlE Ene W (.slice p n cp) l) => treeAbove ⟨p, n, cp⟩ l (c : Int) (m : Int) W g)
  rw [aboveZ_nat hm hc hml] at HAcm
  obtain ⟨r, hr⟩ : ∃ r, r = aboveT l a b := ⟨_, rfl⟩
  rw [← hr] at HAab hme
  have t1 : ((m : Int) == (a : Int)) = r := by rw [Bool.eq_iff_iff, beq_iff_eq]; exact hme
  obtain ⟨ra, hra⟩ : ∃ r, r = aboveT l c a := ⟨_, rfl⟩
  rw [← hra] at HAca
  obtain ⟨rb, hrb⟩ : ∃ r, r = aboveT l c b := ⟨_, rfl⟩
  rw [← hrb] at HAcb
  obtain ⟨rm, hrm⟩ : ∃ r, r = aboveT l c m := ⟨_, rfl⟩
  rw [← hrm] at HAcm
  have H3 : Hid (ra = true → rb = true → rm = true) := fun u v => by rw [hrm]; exact h3 c (by rw [← hra]; exact u) (by rw [← hrb]; exact v)
  clear hme h1 h2 h3 e hml hm ha hb hc hr hra hrb hrm
  go_wp2_with fail
  refine (HMab.out _ A.out.s).mono ?_
  rintro e w3 ⟨rfl, g⟩
  replace A := Lib.hid (A.out.keep g)
  clear g
  replace z1 := A.out.z1
  replace z0 := A.out.z0
  rw [sv_mk] at z0
  go_wp2_with fail
  refine (HAma.out _ A.out.s).mono ?_
  rintro e w4 ⟨rfl, g⟩
  replace A := Lib.hid (A.out.keep g)
  clear g
  replace z1 := A.out.z1
  replace z0 := A.out.z0
  rw [sv_mk] at z0
  go_wp2_with fail
  refine (HAmb.out _ A.out.s).mono ?_
  rintro e w5 ⟨rfl, g⟩
  replace A := Lib.hid (A.out.keep g)
  clear g
  replace z1 := A.out.z1
  replace z0 := A.out.z0
  rw [sv_mk] at z0
  go_wp2_with fail
  refine (HMba.out _ A.out.s).mono ?_
  rintro e w6 ⟨rfl, g⟩
  replace A := Lib.hid (A.out.keep g)
  clear g
  replace z1 := A.out.z1
  replace z0 := A.out.z0
  rw [sv_mk] at z0
  go_wp2_with fail
  refine (HAab.out _ A.out.s).mono ?_
  rintro e w7 ⟨rfl, g⟩
  replace A := Lib.hid (A.out.keep g)
  clear g
  replace z1 := A.out.z1
  replace z0 := A.out.z0
  rw [sv_mk] at z0
  go_wp2_with fail
  refine (HAca.out _ A.out.s).mono ?_
  rintro e w8 ⟨rfl, g⟩
  replace A := Lib.hid (A.out.keep g)
  clear g
  replace z1 := A.out.z1
  replace z0 := A.out.z0
  rw [sv_mk] at z0
  cases ra
  case false =>
    go_wp2_with fail
    go_ret
    exact ⟨rfl, A.out.g⟩
  go_wp2_with fail
  refine (HAcb.out _ A.out.s).mono ?_
  rintro e w9 ⟨rfl, g⟩
  replace A := Lib.hid (A.out.keep g)
  clear g
  replace z1 := A.out.z1
  replace z0 := A.out.z0
  rw [sv_mk] at z0
  cases rb
  case false =>
    go_wp2_with fail
    go_ret
    exact ⟨rfl, A.out.g⟩
  obtain rfl : rm = true := H3.out (by simp) (by simp)
  go_wp2_with fail
  refine (HAcm.out _ A.out.s).mono ?_
  rintro e w10 ⟨rfl, g⟩
  replace A := Lib.hid (A.out.keep g)
  clear g
  replace z1 := A.out.z1
  replace z0 := A.out.z0
  rw [sv_mk] at z0
  go_wp2_with fail
  go_ret
  exact ⟨rfl, A.out.g⟩
/-- The law. -/
theorem skipMeetL (s : Tr) (l : List Nd) (a b c : Int) (w : World) (h : SlE Ene w (sv s.n) l) :
    Calls Try.prog 6 #[.agg (tr s), .int .i64 a, .int .i64 b, .int .i64 c] w fun e w' => e = .returned (.bool true) ∧ Below w.heap.size w w' := by
  obtain ⟨s⟩ := s
  have hn := sv_lenN h
  obtain ⟨p, n, cp⟩ := s
  exact skipMeet_n p n cp l a b c w h hn
end Go.Proofs.Ytnmljjmaejmlfaa
