/-
  The law SkipLeaps, walked. (written by wip/gen/law07.py)
-/
import Derived.Test.YtnmljjmaejmlfaaLaw07
namespace Go.Proofs.Ytnmljjmaejmlfaa
open Go.RowKit

set_option maxRecDepth 100000 in
set_option maxHeartbeats 8000000 in
theorem skipLeaps_n (p : Option Addr) (n cp : Nat) (l : List Nd) (i k : Int) (w : World) (h : SlE Ene w (.slice p n cp) l) (hl : l.length = n) :
    Calls Try.prog 8 #[.agg (tr ⟨⟨p, n, cp⟩⟩), .int .i64 i, .int .i64 k] w fun e w' => e = .returned (.bool true) ∧ Below w.heap.size w w' := by
  have HMay := Lib.hid (fun W (g : SlE Ene W (.slice p n cp) l) => treeMay ⟨p, n, cp⟩ l W g)
  have V : Hid (Tw w (w.alloc (.cells (tr ⟨⟨p, n, cp⟩⟩) 24)) w.heap.size ⟨p, n, cp⟩ l) := tw_one h
  obtain ⟨W0, hW0⟩ : ∃ W0, W0 = w.alloc (.cells (tr ⟨⟨p, n, cp⟩⟩) 24) := ⟨_, rfl⟩
  rw [← hW0] at V
  have A := V
  have HW := Lib.hid hW0
  have HL := Lib.hid hl
  clear V hW0 h hl
  go_enter Try.func8, Try.ntmps8
  go_wp2_with fail
  rw [← HW.out]
  refine (awake_any _).mono ?_
  rintro e w1 ⟨rfl, g⟩
  replace A := Lib.hid (A.out.keep g)
  clear g
  have z1 := A.out.z1
  have z0 := A.out.z0
  rw [sv_mk] at z0
  go_wp2_with fail
  refine (HMay.out _ A.out.s).mono ?_
  rintro e w2 ⟨rfl, g⟩
  replace A := Lib.hid (A.out.keep g)
  clear g
  replace z1 := A.out.z1
  replace z0 := A.out.z0
  rw [sv_mk] at z0
  clear HMay
  by_cases hm : MayT l
  case neg =>
    rw [decide_eq_false hm]
    clear hm
    go_wp2_with fail
    go_ret
    exact ⟨rfl, A.out.g⟩
  rw [decide_eq_true hm]
  have HN : Hid (n ≤ 12) := by show n ≤ 12; have := hm.le; have := HL.out; omega
  have HM := Lib.hid hm
  by_cases hi0 : i < 0
  · have hi0i : decide (i < 0) = true := decide_eq_true (hi0)
    clear hi0
    go_wp2_with fail
    go_ret
    exact ⟨rfl, A.out.g⟩
  have hi0i : decide (i < 0) = false := decide_eq_false (hi0)
  by_cases hi1 : (n : Int) ≤ i
  · have hi1i : decide ((n : Int) ≤ i) = true := decide_eq_true (hi1)
    clear hi1
    go_wp2_with fail
    go_ret
    exact ⟨rfl, A.out.g⟩
  have hi1i : decide ((n : Int) ≤ i) = false := decide_eq_false (hi1)
  by_cases hk0 : k < 0
  · have hk0i : decide (k < 0) = true := decide_eq_true (hk0)
    clear hk0
    go_wp2_with fail
    go_ret
    exact ⟨rfl, A.out.g⟩
  have hk0i : decide (k < 0) = false := decide_eq_false (hk0)
  by_cases hk2 : (2 : Int) < k
  · have hk2i : decide ((2 : Int) < k) = true := decide_eq_true (hk2)
    clear hk2
    go_wp2_with fail
    go_ret
    exact ⟨rfl, A.out.g⟩
  have hk2i : decide ((2 : Int) < k) = false := decide_eq_false (hk2)
  obtain ⟨i, rfl⟩ : ∃ i' : Nat, i = i' := ⟨i.toNat, by omega⟩
  have hi : i < l.length := by have := HL.out; omega
  have Hi := Lib.hid hi
  have hi1n : decide (n ≤ i) = false := decide_eq_false (by omega)
  obtain ⟨k, rfl⟩ : ∃ k' : Nat, k = k' := ⟨k.toNat, by omega⟩
  have hk : k ≤ 2 := by omega
  have Hk := Lib.hid hk
  have hk2n : decide (2 < k) = false := decide_eq_false (by omega)
  have HTb := Lib.hid (fun W (g : SlE Ene W (.slice p n cp) l) => skipTable ⟨p, n, cp⟩ l W g)
  unfold TabIs at HTb
  rw [tab_is l hm] at HTb
  have HLp := Lib.hid (leap_first hm hi)
  have HL2 := Lib.hid (leap_two hm hi k)
  have hL := HL.out
  clear hi hk hm
  go_wp2_with fail
  refine (HTb.out _ A.out.s).mono ?_
  rintro e w3 ⟨v, rfl, ho, g⟩
  replace A := Lib.hid (A.out.keep g)
  obtain ⟨pv, cv, rfl⟩ := ownE_len ho (tabUp_len l l.length)
  rw [hL] at ho ⊢
  have HT := Lib.hid (ownE_slE ho)
  clear ho
  clear g
  replace z1 := A.out.z1
  replace z0 := A.out.z0
  rw [sv_mk] at z0
  clear HTb
  obtain ⟨b2, o2, c2, e2, _, hb2, x2⟩ := slE_ne HT.out (by rw [tabUp_len]; have := Hi.out; omega)
  have e2' : pv = some ⟨b2, o2, none⟩ := by injection e2
  subst e2'
  obtain ⟨b1, o1, rfl, _, x1⟩ := slE_ptr A.out.s (by have := Hi.out; omega)
  have X2 := Lib.hid x2
  have p1 := nds_par x1 (i := i) Hi.out
  have p2 := qd_cell x2 (tabUp_at l (show i < n by have := Hi.out; omega)) (j := 0) (by omega)
  rw [qat_leap l i (by omega), HLp.out, Nat.add_zero] at p2
  obtain ⟨P, hP⟩ : ∃ P, P = (nd l i).parent := ⟨_, rfl⟩
  rw [← hP] at p1 p2
  have p3 := qd_cell x2 (tabUp_at l (show i < n by have := Hi.out; omega)) (j := k) (by have := Hk.out; omega)
  rw [qat_leap l i (by have := Hk.out; omega)] at p3
  have p4 := qd_cell x2 (tabUp_at l (show i < n by have := Hi.out; omega)) (j := k + 1) (by have := Hk.out; omega)
  rw [qat_leap l i (by have := Hk.out; omega)] at p4
  have hx0 : (0 : Int) ≤ (i : Int) := by omega
  have hx1 : (i : Int) < (n : Int) := by have := Hi.out; omega
  have hy0 : (0 : Int) ≤ (k : Int) := by omega
  have hy1 : (k : Int) < 4 := by have := Hk.out; omega
  have hw0 : (0 : Int) ≤ (k : Int) + 1 := by omega
  have hw1 : (k : Int) + 1 < 4 := by have := Hk.out; omega
  have u1 : (k : Int) + 1 < 10000 := by have := Hk.out; omega
  clear e2 hb2 x1 x2 hP hL
  go_wp2_with fail
  go_quiet (fail)
  rcases HL2.out with ⟨h1, h2⟩ | ⟨y, h1, hy, h2⟩
  case inl =>
    rw [h1] at p3
    rw [h2] at p4
    clear h1 h2 HL2
    go_wp2_with fail
    go_ret
    exact ⟨rfl, belowD A.out.g _⟩
  rw [h1] at p3
  have p5 := qd_cell X2.out (tabUp_at l (show y < n by have := HL.out; omega)) (j := k) (by have := Hk.out; omega)
  rw [qat_leap l y (by have := Hk.out; omega), ← h2] at p5
  have hv0 : (0 : Int) ≤ (y : Int) := by omega
  have hv1 : (y : Int) < (n : Int) := by have := HL.out; omega
  have hv2 : decide ((n : Int) ≤ (y : Int)) = false := decide_eq_false (by omega)
  have hv3 : decide (n ≤ y) = false := decide_eq_false (by omega)
  have hv4 : decide ((y : Int) < 0) = false := decide_eq_false (by omega)
  clear h1 h2 HL2 hy
  go_wp2_with fail
  go_quiet (fail)
  go_wp2_with fail
  go_ret
  exact ⟨rfl, belowD (belowD A.out.g _) _⟩
/-- The law. -/
theorem skipLeapsL (s : Tr) (l : List Nd) (i k : Int) (w : World) (h : SlE Ene w (sv s.n) l) :
    Calls Try.prog 8 #[.agg (tr s), .int .i64 i, .int .i64 k] w fun e w' => e = .returned (.bool true) ∧ Below w.heap.size w w' := by
  obtain ⟨s⟩ := s
  have hn := sv_lenN h
  obtain ⟨p, n, cp⟩ := s
  exact skipLeaps_n p n cp l i k w h hn
end Go.Proofs.Ytnmljjmaejmlfaa
