/-
  The law WeightTells, walked. (written by wip/gen/law08.py)
-/
import Derived.Test.YtonfmddjlhgglaaLaw08
namespace Go.Proofs.Ytonfmddjlhgglaa
open Go.RowKit

set_option maxRecDepth 100000 in
set_option maxHeartbeats 8000000 in
theorem weightTells_n (HSu : SubC) (HPa : PassC) (HSa : SameC) (p : Option Addr) (n cp : Nat) (l : List Nd) (q1 : Option Addr) (m1 c1 : Nat) (a1 : List UInt64) (q2 : Option Addr) (m2 c2 : Nat) (a2 : List UInt64) (q3 : Option Addr) (m3 c3 : Nat) (a3 : List UInt64) (w : World) (h : SlE Ene w (.slice p n cp) l) (hl : l.length = n) (h1 : SlE Enum w (.slice q1 m1 c1) a1) (e1 : a1.length = m1) (h2 : SlE Enum w (.slice q2 m2 c2) a2) (e2 : a2.length = m2) (h3 : SlE Enum w (.slice q3 m3 c3) a3) (e3 : a3.length = m3) :
    Calls Try.prog 3 #[.agg (tr ⟨⟨p, n, cp⟩⟩), .slice q1 m1 c1, .slice q2 m2 c2, .slice q3 m3 c3] w fun e w' => e = .returned (.bool true) ∧ Below w.heap.size w w' := by
  have V : Hid (Tw w (w.alloc (.cells (tr ⟨⟨p, n, cp⟩⟩) 24)) w.heap.size ⟨p, n, cp⟩ l) := tw_one h
  obtain ⟨W0, hW0⟩ : ∃ W0, W0 = w.alloc (.cells (tr ⟨⟨p, n, cp⟩⟩) 24) := ⟨_, rfl⟩
  have hB : Below w.heap.size w W0 := by rw [hW0]; exact below1
  rw [← hW0] at V
  have A := V
  have HW := Lib.hid hW0
  have HL := Lib.hid hl
  have B1 : Hid (SlE Enum W0 (.slice q1 m1 c1) a1) := slE_keep hB h1
  have E1 := Lib.hid e1
  have B2 : Hid (SlE Enum W0 (.slice q2 m2 c2) a2) := slE_keep hB h2
  have E2 := Lib.hid e2
  have B3 : Hid (SlE Enum W0 (.slice q3 m3 c3) a3) := slE_keep hB h3
  have E3 := Lib.hid e3
  have HAw := Lib.hid (fun W => awake_any8 HSu HPa HSa W)
  have HSu := Lib.hid HSu
  have HPa := Lib.hid HPa
  have HSa := Lib.hid HSa
  clear V hW0 hB h hl h1 e1 h2 e2 h3 e3
  go_enter Try.func3, Try.ntmps3
  go_wp2_with fail
  rw [← HW.out]
  refine (HAw.out _).mono ?_
  rintro e w1 ⟨rfl, g⟩
  replace A := Lib.hid (A.out.keep g)
  replace B1 := Lib.hid (slE_keep g B1.out)
  replace B2 := Lib.hid (slE_keep g B2.out)
  replace B3 := Lib.hid (slE_keep g B3.out)
  clear g
  have z1 := A.out.z1
  have z0 := A.out.z0
  rw [sv_mk] at z0
  by_cases h20 : 20 < n
  · have h20i : decide ((20 : Int) < (n : Int)) = true := decide_eq_true (by omega)
    have h20i' : decide (20 < n) = true := decide_eq_true (by omega)
    clear h20
    go_wp2_with fail
    go_ret
    exact ⟨rfl, A.out.g⟩
  have h20i : decide ((20 : Int) < (n : Int)) = false := decide_eq_false (by omega)
  have h20i' : decide (20 < n) = false := decide_eq_false (by omega)
  by_cases h41 : 40 < m1
  · have h41i : decide ((40 : Int) < (m1 : Int)) = true := decide_eq_true (by omega)
    have h41i' : decide (40 < m1) = true := decide_eq_true (by omega)
    clear h41
    go_wp2_with fail
    go_ret
    exact ⟨rfl, A.out.g⟩
  have h41i : decide ((40 : Int) < (m1 : Int)) = false := decide_eq_false (by omega)
  have h41i' : decide (40 < m1) = false := decide_eq_false (by omega)
  by_cases h42 : 40 < m2
  · have h42i : decide ((40 : Int) < (m2 : Int)) = true := decide_eq_true (by omega)
    have h42i' : decide (40 < m2) = true := decide_eq_true (by omega)
    clear h42
    go_wp2_with fail
    go_ret
    exact ⟨rfl, A.out.g⟩
  have h42i : decide ((40 : Int) < (m2 : Int)) = false := decide_eq_false (by omega)
  have h42i' : decide (40 < m2) = false := decide_eq_false (by omega)
  by_cases h43 : 40 < m3
  · have h43i : decide ((40 : Int) < (m3 : Int)) = true := decide_eq_true (by omega)
    have h43i' : decide (40 < m3) = true := decide_eq_true (by omega)
    clear h43
    go_wp2_with fail
    go_ret
    exact ⟨rfl, A.out.g⟩
  have h43i : decide ((40 : Int) < (m3 : Int)) = false := decide_eq_false (by omega)
  have h43i' : decide (40 < m3) = false := decide_eq_false (by omega)
  have hl20 : l.length ≤ 1000 := by have := HL.out; omega
  have HS1 := Lib.hid (fun W (g : SlE Ene W (.slice p n cp) l) (g2 : SlE Enum W (.slice q2 m2 c2) a2) => HSu.out ⟨p, n, cp⟩ _ l a2 W g g2)
  have HS2 := Lib.hid (fun W (g : SlE Ene W (.slice p n cp) l) (g2 : SlE Enum W (.slice q2 m2 c2) a2) => (ref08Sub ⟨p, n, cp⟩ _ l a2 W g g2 hl20).mono fun _ _ h => h.is)
  have HP1 := Lib.hid (fun W (g : SlE Ene W (.slice p n cp) l) (g1 : SlE Enum W (.slice q1 m1 c1) a1) (g2 : SlE Enum W (.slice q2 m2 c2) a2) (g3 : SlE Enum W (.slice q3 m3 c3) a3) => HPa.out ⟨p, n, cp⟩ _ _ _ l a1 a2 a3 W g g1 g2 g3)
  have HP2 := Lib.hid (fun W (g : SlE Ene W (.slice p n cp) l) (g1 : SlE Enum W (.slice q1 m1 c1) a1) (g2 : SlE Enum W (.slice q2 m2 c2) a2) (g3 : SlE Enum W (.slice q3 m3 c3) a3) => (ref08Pass ⟨p, n, cp⟩ _ _ _ l a1 a2 a3 W g g1 g2 g3 hl20).mono fun _ _ h => h.is)
  have K1 := Lib.hid (subL_le l a2)
  have K2 := Lib.hid (passL_le l a1 a2 a3)
  have K3 : Hid (a1.length ≤ 40) := by show a1.length ≤ 40; have := E1.out; omega
  generalize subL l a2 = LS at *
  generalize passL l a1 a2 a3 = LP at *
  generalize subOk l a2 = os at *
  generalize passOk l a1 a2 a3 = op at *
  clear hl20 h20 h41 h42 h43
  go_wp2_with fail
  refine (HS1.out _ A.out.s B2.out).mono ?_
  rintro e w2 ⟨va, rfl, hv, g⟩
  replace A := Lib.hid (A.out.keep g)
  replace B1 := Lib.hid (slE_keep g B1.out)
  replace B2 := Lib.hid (slE_keep g B2.out)
  replace B3 := Lib.hid (slE_keep g B3.out)
  have R1 := Lib.hid hv
  clear hv
  clear g
  replace z1 := A.out.z1
  replace z0 := A.out.z0
  rw [sv_mk] at z0
  go_wp2_with fail
  refine (HS2.out _ A.out.s B2.out).mono ?_
  rintro e w3 ⟨vb, rfl, hv, g⟩
  replace A := Lib.hid (A.out.keep g)
  replace B1 := Lib.hid (slE_keep g B1.out)
  replace B2 := Lib.hid (slE_keep g B2.out)
  replace B3 := Lib.hid (slE_keep g B3.out)
  replace R1 := Lib.hid (slE_keep g R1.out)
  have R2 := Lib.hid hv
  clear hv
  clear g
  replace z1 := A.out.z1
  replace z0 := A.out.z0
  rw [sv_mk] at z0
  go_wp2_with fail
  refine (HP1.out _ A.out.s B1.out B2.out B3.out).mono ?_
  rintro e w4 ⟨vc, rfl, hv, g⟩
  replace A := Lib.hid (A.out.keep g)
  replace B1 := Lib.hid (slE_keep g B1.out)
  replace B2 := Lib.hid (slE_keep g B2.out)
  replace B3 := Lib.hid (slE_keep g B3.out)
  replace R1 := Lib.hid (slE_keep g R1.out)
  replace R2 := Lib.hid (slE_keep g R2.out)
  have R3 := Lib.hid hv
  clear hv
  clear g
  replace z1 := A.out.z1
  replace z0 := A.out.z0
  rw [sv_mk] at z0
  go_wp2_with fail
  refine (HP2.out _ A.out.s B1.out B2.out B3.out).mono ?_
  rintro e w5 ⟨vd, rfl, hv, g⟩
  replace A := Lib.hid (A.out.keep g)
  replace B1 := Lib.hid (slE_keep g B1.out)
  replace B2 := Lib.hid (slE_keep g B2.out)
  replace B3 := Lib.hid (slE_keep g B3.out)
  replace R1 := Lib.hid (slE_keep g R1.out)
  replace R2 := Lib.hid (slE_keep g R2.out)
  replace R3 := Lib.hid (slE_keep g R3.out)
  have R4 := Lib.hid hv
  clear hv
  clear g
  replace z1 := A.out.z1
  replace z0 := A.out.z0
  rw [sv_mk] at z0
  have hs := ref08Same va vb LS LS _ R1.out R2.out (by have := K1.out; omega)
  rw [decide_eq_true rfl] at hs
  go_wp2_with fail
  refine (hs).mono ?_
  rintro e w6 ⟨rfl, g⟩
  replace A := Lib.hid (A.out.keep g)
  replace B1 := Lib.hid (slE_keep g B1.out)
  replace B2 := Lib.hid (slE_keep g B2.out)
  replace B3 := Lib.hid (slE_keep g B3.out)
  replace R1 := Lib.hid (slE_keep g R1.out)
  replace R2 := Lib.hid (slE_keep g R2.out)
  replace R3 := Lib.hid (slE_keep g R3.out)
  replace R4 := Lib.hid (slE_keep g R4.out)
  clear g
  replace z1 := A.out.z1
  replace z0 := A.out.z0
  rw [sv_mk] at z0
  clear hs
  have hs := ref08Same vc vd LP LP _ R3.out R4.out (by have := K2.out; omega)
  rw [decide_eq_true rfl] at hs
  go_wp2_with fail
  refine (hs).mono ?_
  rintro e w7 ⟨rfl, g⟩
  replace A := Lib.hid (A.out.keep g)
  replace B1 := Lib.hid (slE_keep g B1.out)
  replace B2 := Lib.hid (slE_keep g B2.out)
  replace B3 := Lib.hid (slE_keep g B3.out)
  replace R1 := Lib.hid (slE_keep g R1.out)
  replace R2 := Lib.hid (slE_keep g R2.out)
  replace R3 := Lib.hid (slE_keep g R3.out)
  replace R4 := Lib.hid (slE_keep g R4.out)
  clear g
  replace z1 := A.out.z1
  replace z0 := A.out.z0
  rw [sv_mk] at z0
  clear hs
  have hs := ref08Same _ _ a1 a2 _ B1.out B2.out (by have := K3.out; omega)
  go_wp2_with fail
  refine (hs).mono ?_
  rintro e w8 ⟨rfl, g⟩
  replace A := Lib.hid (A.out.keep g)
  replace B1 := Lib.hid (slE_keep g B1.out)
  replace B2 := Lib.hid (slE_keep g B2.out)
  replace B3 := Lib.hid (slE_keep g B3.out)
  replace R1 := Lib.hid (slE_keep g R1.out)
  replace R2 := Lib.hid (slE_keep g R2.out)
  replace R3 := Lib.hid (slE_keep g R3.out)
  replace R4 := Lib.hid (slE_keep g R4.out)
  clear g
  replace z1 := A.out.z1
  replace z0 := A.out.z0
  rw [sv_mk] at z0
  clear hs
  have hs := HSa.out _ _ a1 a2 _ B1.out B2.out (by have := K3.out; omega)
  generalize decide (a1 = a2) = same at *
  go_wp2_with fail
  refine (hs).mono ?_
  rintro e w9 ⟨rfl, g⟩
  replace A := Lib.hid (A.out.keep g)
  replace B1 := Lib.hid (slE_keep g B1.out)
  replace B2 := Lib.hid (slE_keep g B2.out)
  replace B3 := Lib.hid (slE_keep g B3.out)
  replace R1 := Lib.hid (slE_keep g R1.out)
  replace R2 := Lib.hid (slE_keep g R2.out)
  replace R3 := Lib.hid (slE_keep g R3.out)
  replace R4 := Lib.hid (slE_keep g R4.out)
  clear g
  replace z1 := A.out.z1
  replace z0 := A.out.z0
  rw [sv_mk] at z0
  clear hs
  go_wp2_with fail
  go_ret
  exact ⟨rfl, A.out.g⟩
/-- The law. -/
theorem weightTellsL (HSu : SubC) (HPa : PassC) (HSa : SameC) (s : Tr) (l : List Nd) (v1 : Value) (a1 : List UInt64) (v2 : Value) (a2 : List UInt64) (v3 : Value) (a3 : List UInt64) (w : World) (h : SlE Ene w (sv s.n) l) (h1 : SlE Enum w v1 a1) (h2 : SlE Enum w v2 a2) (h3 : SlE Enum w v3 a3) :
    Calls Try.prog 3 #[.agg (tr s), v1, v2, v3] w fun e w' => e = .returned (.bool true) ∧ Below w.heap.size w w' := by
  obtain ⟨s⟩ := s
  have hn := sv_lenN h
  obtain ⟨p, n, cp⟩ := s
  have k1 := h1
  obtain ⟨q1, c1, rfl, _⟩ := slE_shape h1
  have k2 := h2
  obtain ⟨q2, c2, rfl, _⟩ := slE_shape h2
  have k3 := h3
  obtain ⟨q3, c3, rfl, _⟩ := slE_shape h3
  exact weightTells_n HSu HPa HSa p n cp l q1 _ c1 a1 q2 _ c2 a2 q3 _ c3 a3 w h hn k1 rfl k2 rfl k3 rfl
end Go.Proofs.Ytonfmddjlhgglaa
