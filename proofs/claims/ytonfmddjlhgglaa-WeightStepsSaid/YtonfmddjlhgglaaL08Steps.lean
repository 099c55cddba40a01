/-
  The law WeightSteps, walked. (written by wip/gen/law08.py)
-/
import Derived.Test.YtonfmddjlhgglaaLaw08
import Derived.OwnWalk
namespace Go.Proofs.Ytonfmddjlhgglaa
open Go.RowKit

set_option maxRecDepth 100000 in
set_option maxHeartbeats 8000000 in
theorem weightSteps_n (HSu : SubC) (HPa : PassC) (HSa : SameC) (p : Option Addr) (n cp : Nat) (l : List Nd) (q1 : Option Addr) (m1 c1 : Nat) (a1 : List UInt64) (q2 : Option Addr) (m2 c2 : Nat) (a2 : List UInt64) (q3 : Option Addr) (m3 c3 : Nat) (a3 : List UInt64) (w : World) (h : SlE Ene w (.slice p n cp) l) (hl : l.length = n) (h1 : SlE Enum w (.slice q1 m1 c1) a1) (e1 : a1.length = m1) (h2 : SlE Enum w (.slice q2 m2 c2) a2) (e2 : a2.length = m2) (h3 : SlE Enum w (.slice q3 m3 c3) a3) (e3 : a3.length = m3) :
    Calls Try.prog 8 #[.agg (tr ⟨⟨p, n, cp⟩⟩), .slice q1 m1 c1, .slice q2 m2 c2, .slice q3 m3 c3] w fun e w' => e = .returned (.bool true) ∧ Below w.heap.size w w' := by
  have V : Hid (Tw w (w.alloc (.cells (tr ⟨⟨p, n, cp⟩⟩) 24)) w.heap.size ⟨p, n, cp⟩ l) := tw_one h
  obtain ⟨W0, hW0⟩ : ∃ W0, W0 = w.alloc (.cells (tr ⟨⟨p, n, cp⟩⟩) 24) := ⟨_, rfl⟩
  have hB : Below w.heap.size w W0 := by rw [hW0]; exact below1
  rw [← hW0] at V
  have A := V
  have HW := Lib.hid hW0
  have HL := Lib.hid hl
  have B1 : Hid (SlE Enum W0 (.slice q1 m1 c1) a1) := slE_keep hB h1
  have E1 := Lib.hid e1
  have B2 : Hid (SlE Enum W0 (.slice q2 m2 c2) a2) := slE_keep hB h2
  have E2 := Lib.hid e2
  have B3 : Hid (SlE Enum W0 (.slice q3 m3 c3) a3) := slE_keep hB h3
  have E3 := Lib.hid e3
  have HAw := Lib.hid (fun W => awake_any8 HSu HPa HSa W)
  have HSu := Lib.hid HSu
  have HPa := Lib.hid HPa
  have HSa := Lib.hid HSa
  clear V hW0 hB h hl h1 e1 h2 e2 h3 e3
  obtain ⟨i, hi, hz0, hz1, hz2⟩ := info_parts info_num
  go_enter Try.func8, Try.ntmps8
  go_wp2_with fail
  rw [← HW.out]
  refine (HAw.out _).mono ?_
  rintro e w1 ⟨rfl, g⟩
  replace A := Lib.hid (A.out.keep g)
  replace B1 := Lib.hid (slE_keep g B1.out)
  replace B2 := Lib.hid (slE_keep g B2.out)
  replace B3 := Lib.hid (slE_keep g B3.out)
  clear g
  have z1 := A.out.z1
  have z0 := A.out.z0
  rw [sv_mk] at z0
  by_cases h20 : 20 < n
  · have h20i : decide ((20 : Int) < (n : Int)) = true := decide_eq_true (by omega)
    have h20i' : decide (20 < n) = true := decide_eq_true (by omega)
    clear h20
    go_wp2_with fail
    go_ret
    exact ⟨rfl, A.out.g⟩
  have h20i : decide ((20 : Int) < (n : Int)) = false := decide_eq_false (by omega)
  have h20i' : decide (20 < n) = false := decide_eq_false (by omega)
  have HN : Hid (n ≤ 20) := by show n ≤ 20; omega
  clear h20
  have HC : Hid (∀ W, Below w1.heap.size w1 W → ldA W (.pointer (some ⟨w.heap.size, 0, none⟩)) 1 = some (tr ⟨⟨p, n, cp⟩⟩) ∧ W.cell? ⟨w.heap.size, 0, none⟩ = some (.slice p n cp)) := fun W g => by
    have k := A.out.keep g
    have k0 := k.z0
    rw [sv_mk] at k0
    exact ⟨k.z1, k0⟩
  go_wp2_with (at_make; refine wpList_make_full _ rfl _ _ 25 rfl w1.heap.size 33 i _ 1 Try.underlying25 hi hz0 hz1 .i64 .i64 _ _ n rfl rfl rfl rfl (by rw [hz2]; have := HN.out; omega) (by unfold maxLen; have := HN.out; omega) (Nat.le_refl _) ?_; intro wz hown hgrow; have zz := (HC.out wz ((Below.refl _ _).grown hgrow (Nat.le_refl _) (fun k hk => by cases hk))).1; have zy := (HC.out wz ((Below.refl _ _).grown hgrow (Nat.le_refl _) (fun k hk => by cases hk))).2)
  have g : Below w1.heap.size w1 wz := (Below.refl _ _).grown hgrow (Nat.le_refl _) (fun k hk => by cases hk)
  replace A := Lib.hid (A.out.keep g)
  replace B1 := Lib.hid (slE_keep g B1.out)
  replace B2 := Lib.hid (slE_keep g B2.out)
  replace B3 := Lib.hid (slE_keep g B3.out)
  have Z0 := Lib.hid (zeros_made hown)
  clear g hown hgrow HC zz zy hi hz0 hz1 hz2 i
  rw [show List.replicate n (0 : UInt64) = List.replicate l.length 0 by rw [HL.out]] at Z0
  generalize hZ : List.replicate l.length (0 : UInt64) = Z at *
  have LAW : Hid (passOk l a1 a2 Z = true → passOk l (passL l a1 a2 Z) Z a3 = passOk l a1 a2 a3 ∧ (passOk l a1 a2 a3 = true → passL l (passL l a1 a2 Z) Z a3 = passL l a1 a2 a3)) := fun e => by subst hZ; exact law_steps e
  have K1 := Lib.hid (passL_le l (passL l a1 a2 Z) Z a3)
  clear hZ
  refine (HPa.out _ _ _ _ l a1 a2 Z _ A.out.s B1.out B2.out Z0.out).mono ?_
  rintro e w2 ⟨va, rfl, hv, g⟩
  replace A := Lib.hid (A.out.keep g)
  replace B1 := Lib.hid (slE_keep g B1.out)
  replace B2 := Lib.hid (slE_keep g B2.out)
  replace B3 := Lib.hid (slE_keep g B3.out)
  replace Z0 := Lib.hid (slE_keep g Z0.out)
  have R1 := Lib.hid hv
  clear hv g
  replace z1 := A.out.z1
  replace z0 := A.out.z0
  rw [sv_mk] at z0
  go_wp2_with fail
  refine (HPa.out _ _ _ _ l (passL l a1 a2 Z) Z a3 _ A.out.s R1.out Z0.out B3.out).mono ?_
  rintro e w3 ⟨vb, rfl, hv, g⟩
  replace A := Lib.hid (A.out.keep g)
  replace B1 := Lib.hid (slE_keep g B1.out)
  replace B2 := Lib.hid (slE_keep g B2.out)
  replace B3 := Lib.hid (slE_keep g B3.out)
  replace Z0 := Lib.hid (slE_keep g Z0.out)
  replace R1 := Lib.hid (slE_keep g R1.out)
  have R2 := Lib.hid hv
  clear hv
  clear g
  replace z1 := A.out.z1
  replace z0 := A.out.z0
  rw [sv_mk] at z0
  go_wp2_with fail
  refine (HPa.out _ _ _ _ l a1 a2 a3 _ A.out.s B1.out B2.out B3.out).mono ?_
  rintro e w4 ⟨vc, rfl, hv, g⟩
  replace A := Lib.hid (A.out.keep g)
  replace B1 := Lib.hid (slE_keep g B1.out)
  replace B2 := Lib.hid (slE_keep g B2.out)
  replace B3 := Lib.hid (slE_keep g B3.out)
  replace Z0 := Lib.hid (slE_keep g Z0.out)
  replace R1 := Lib.hid (slE_keep g R1.out)
  replace R2 := Lib.hid (slE_keep g R2.out)
  have R3 := Lib.hid hv
  clear hv
  clear g
  replace z1 := A.out.z1
  replace z0 := A.out.z0
  rw [sv_mk] at z0
  have hs := ref08Same vb vc _ _ _ R2.out R3.out (by have := K1.out; omega)
  go_wp2_with fail
  refine (hs).mono ?_
  rintro e w5 ⟨rfl, g⟩
  replace A := Lib.hid (A.out.keep g)
  replace B1 := Lib.hid (slE_keep g B1.out)
  replace B2 := Lib.hid (slE_keep g B2.out)
  replace B3 := Lib.hid (slE_keep g B3.out)
  replace Z0 := Lib.hid (slE_keep g Z0.out)
  replace R1 := Lib.hid (slE_keep g R1.out)
  replace R2 := Lib.hid (slE_keep g R2.out)
  replace R3 := Lib.hid (slE_keep g R3.out)
  clear g
  replace z1 := A.out.z1
  replace z0 := A.out.z0
  rw [sv_mk] at z0
  clear hs
  have FIN : Hid (passOk l a1 a2 Z = true → passOk l (passL l a1 a2 Z) Z a3 = passOk l a1 a2 a3 ∧ (passOk l a1 a2 a3 = true → decide (passL l (passL l a1 a2 Z) Z a3 = passL l a1 a2 a3) = true)) := fun e => ⟨(LAW.out e).1, fun e2 => decide_eq_true ((LAW.out e).2 e2)⟩
  generalize decide (passL l (passL l a1 a2 Z) Z a3 = passL l a1 a2 a3) = same at *
  generalize passOk l a1 a2 Z = o1 at *
  generalize passOk l (passL l a1 a2 Z) Z a3 = o2 at *
  generalize passOk l a1 a2 a3 = o3 at *
  clear LAW K1
  cases o1
  case false =>
    go_wp2_with fail
    go_ret
    exact ⟨rfl, A.out.g⟩
  obtain ⟨f1, f2⟩ := FIN.out (by simp)
  obtain rfl : o2 = o3 := f1
  clear FIN
  cases o2
  case false =>
    clear f2
    go_wp2_with fail
    go_ret
    exact ⟨rfl, A.out.g⟩
  obtain rfl : same = true := f2 (by simp)
  clear f2
  go_wp2_with fail
  go_ret
  exact ⟨rfl, A.out.g⟩
/-- The law. -/
theorem weightStepsL (HSu : SubC) (HPa : PassC) (HSa : SameC) (s : Tr) (l : List Nd) (v1 : Value) (a1 : List UInt64) (v2 : Value) (a2 : List UInt64) (v3 : Value) (a3 : List UInt64) (w : World) (h : SlE Ene w (sv s.n) l) (h1 : SlE Enum w v1 a1) (h2 : SlE Enum w v2 a2) (h3 : SlE Enum w v3 a3) :
    Calls Try.prog 8 #[.agg (tr s), v1, v2, v3] w fun e w' => e = .returned (.bool true) ∧ Below w.heap.size w w' := by
  obtain ⟨s⟩ := s
  have hn := sv_lenN h
  obtain ⟨p, n, cp⟩ := s
  have k1 := h1
  obtain ⟨q1, c1, rfl, _⟩ := slE_shape h1
  have k2 := h2
  obtain ⟨q2, c2, rfl, _⟩ := slE_shape h2
  have k3 := h3
  obtain ⟨q3, c3, rfl, _⟩ := slE_shape h3
  exact weightSteps_n HSu HPa HSa p n cp l q1 _ c1 a1 q2 _ c2 a2 q3 _ c3 a3 w h hn k1 rfl k2 rfl k3 rfl
end Go.Proofs.Ytonfmddjlhgglaa
