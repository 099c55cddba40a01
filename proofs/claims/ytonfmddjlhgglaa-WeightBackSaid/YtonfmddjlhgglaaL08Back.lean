/-
  The law WeightBack, walked. (written by wip/gen/law08.py)
-/
import Derived.Test.YtonfmddjlhgglaaLaw08
import Derived.OwnWalk
import Derived.Test.YtonfmddjlhgglaaP06May
namespace Go.Proofs.Ytonfmddjlhgglaa
open Go.RowKit

set_option maxRecDepth 100000 in
set_option maxHeartbeats 8000000 in
theorem weightBack_n (HSu : SubC) (HPa : PassC) (HSa : SameC) (p : Option Addr) (n cp : Nat) (l : List Nd) (q1 : Option Addr) (m1 c1 : Nat) (a1 : List UInt64) (q2 : Option Addr) (m2 c2 : Nat) (a2 : List UInt64) (w : World) (h : SlE Ene w (.slice p n cp) l) (hl : l.length = n) (h1 : SlE Enum w (.slice q1 m1 c1) a1) (e1 : a1.length = m1) (h2 : SlE Enum w (.slice q2 m2 c2) a2) (e2 : a2.length = m2) (room : l.length * 56 ≤ 140737488355328) :
    Calls Try.prog 6 #[.agg (tr ⟨⟨p, n, cp⟩⟩), .slice q1 m1 c1, .slice q2 m2 c2] w fun e w' => e = .returned (.bool true) ∧ Below w.heap.size w w' := by
  have V : Hid (Tw w (w.alloc (.cells (tr ⟨⟨p, n, cp⟩⟩) 24)) w.heap.size ⟨p, n, cp⟩ l) := tw_one h
  obtain ⟨W0, hW0⟩ : ∃ W0, W0 = w.alloc (.cells (tr ⟨⟨p, n, cp⟩⟩) 24) := ⟨_, rfl⟩
  have hB : Below w.heap.size w W0 := by rw [hW0]; exact below1
  rw [← hW0] at V
  have A := V
  have HW := Lib.hid hW0
  have HL := Lib.hid hl
  have B1 : Hid (SlE Enum W0 (.slice q1 m1 c1) a1) := slE_keep hB h1
  have E1 := Lib.hid e1
  have B2 : Hid (SlE Enum W0 (.slice q2 m2 c2) a2) := slE_keep hB h2
  have E2 := Lib.hid e2
  have HAw := Lib.hid (fun W => awake_any8 HSu HPa HSa W)
  have HSu := Lib.hid HSu
  have HPa := Lib.hid HPa
  have HSa := Lib.hid HSa
  clear V hW0 hB h hl h1 e1 h2 e2
  have HRoom : Hid (n * 56 ≤ 140737488355328) := by show n * 56 ≤ _; have := HL.out; omega
  clear room
  obtain ⟨i, hi, hz0, hz1, hz2⟩ := info_parts info_num
  go_enter Try.func6, Try.ntmps6
  go_wp2_with fail
  rw [← HW.out]
  refine (HAw.out _).mono ?_
  rintro e w1 ⟨rfl, g⟩
  replace A := Lib.hid (A.out.keep g)
  replace B1 := Lib.hid (slE_keep g B1.out)
  replace B2 := Lib.hid (slE_keep g B2.out)
  clear g
  have z1 := A.out.z1
  have z0 := A.out.z0
  rw [sv_mk] at z0
  have HMay := Lib.hid (fun W (g : SlE Ene W (.slice p n cp) l) => treeMay ⟨p, n, cp⟩ l W g)
  have HC : Hid (∀ W, Below w1.heap.size w1 W → ldA W (.pointer (some ⟨w.heap.size, 0, none⟩)) 1 = some (tr ⟨⟨p, n, cp⟩⟩) ∧ W.cell? ⟨w.heap.size, 0, none⟩ = some (.slice p n cp)) := fun W g => by
    have k := A.out.keep g
    have k0 := k.z0
    rw [sv_mk] at k0
    exact ⟨k.z1, k0⟩
  go_wp2_with (at_make; refine wpList_make_full _ rfl _ _ 25 rfl w1.heap.size 33 i _ 1 Try.underlying25 hi hz0 hz1 .i64 .i64 _ _ n rfl rfl rfl rfl (by rw [hz2]; have := HRoom.out; omega) (by unfold maxLen; have := HRoom.out; omega) (Nat.le_refl _) ?_; intro wz hown hgrow; have zz := (HC.out wz ((Below.refl _ _).grown hgrow (Nat.le_refl _) (fun k hk => by cases hk))).1; have zy := (HC.out wz ((Below.refl _ _).grown hgrow (Nat.le_refl _) (fun k hk => by cases hk))).2)
  have g : Below w1.heap.size w1 wz := (Below.refl _ _).grown hgrow (Nat.le_refl _) (fun k hk => by cases hk)
  replace A := Lib.hid (A.out.keep g)
  replace B1 := Lib.hid (slE_keep g B1.out)
  replace B2 := Lib.hid (slE_keep g B2.out)
  have Z0 := Lib.hid (zeros_made hown)
  clear g hown hgrow HC zz zy hi hz0 hz1 hz2 i
  rw [show List.replicate n (0 : UInt64) = List.replicate l.length 0 by rw [HL.out]] at Z0
  generalize hZ : List.replicate l.length (0 : UInt64) = Z at *
  have L1 : Hid (passOk l a1 Z Z = (decide (MayT l) && decide (a1.length = l.length)) ∧ (passOk l a1 Z Z = true → passL l a1 Z Z = a1)) := by show _ ∧ _; subst hZ; exact law_still
  have L2 : Hid (passOk l a1 a2 Z = true → passOk l (passL l a1 a2 Z) Z a2 = true ∧ passL l (passL l a1 a2 Z) Z a2 = a1) := fun e => by subst hZ; exact law_back e
  have K1 := Lib.hid (passL_le l a1 Z Z)
  have K2 := Lib.hid (passL_le l (passL l a1 a2 Z) Z a2)
  clear hZ
  refine (HPa.out _ _ _ _ l a1 a2 Z _ A.out.s B1.out B2.out Z0.out).mono ?_
  rintro e w2 ⟨va, rfl, hv, g⟩
  replace A := Lib.hid (A.out.keep g)
  replace B1 := Lib.hid (slE_keep g B1.out)
  replace B2 := Lib.hid (slE_keep g B2.out)
  replace Z0 := Lib.hid (slE_keep g Z0.out)
  have R1 := Lib.hid hv
  clear hv g
  replace z1 := A.out.z1
  replace z0 := A.out.z0
  rw [sv_mk] at z0
  by_cases h20 : 20 < n
  · have h20i : decide ((20 : Int) < (n : Int)) = true := decide_eq_true (by omega)
    have h20i' : decide (20 < n) = true := decide_eq_true (by omega)
    clear h20
    go_wp2_with fail
    go_ret
    exact ⟨rfl, A.out.g⟩
  have h20i : decide ((20 : Int) < (n : Int)) = false := decide_eq_false (by omega)
  have h20i' : decide (20 < n) = false := decide_eq_false (by omega)
  clear h20
  go_wp2_with fail
  refine (HPa.out _ _ _ _ l a1 Z Z _ A.out.s B1.out Z0.out Z0.out).mono ?_
  rintro e w3 ⟨vb, rfl, hv, g⟩
  replace A := Lib.hid (A.out.keep g)
  replace B1 := Lib.hid (slE_keep g B1.out)
  replace B2 := Lib.hid (slE_keep g B2.out)
  replace Z0 := Lib.hid (slE_keep g Z0.out)
  replace R1 := Lib.hid (slE_keep g R1.out)
  have R2 := Lib.hid hv
  clear hv
  clear g
  replace z1 := A.out.z1
  replace z0 := A.out.z0
  rw [sv_mk] at z0
  have hs := ref08Same vb _ _ a1 _ R2.out B1.out (by have := K1.out; omega)
  go_wp2_with fail
  refine (hs).mono ?_
  rintro e w4 ⟨rfl, g⟩
  replace A := Lib.hid (A.out.keep g)
  replace B1 := Lib.hid (slE_keep g B1.out)
  replace B2 := Lib.hid (slE_keep g B2.out)
  replace Z0 := Lib.hid (slE_keep g Z0.out)
  replace R1 := Lib.hid (slE_keep g R1.out)
  replace R2 := Lib.hid (slE_keep g R2.out)
  clear g
  replace z1 := A.out.z1
  replace z0 := A.out.z0
  rw [sv_mk] at z0
  clear hs
  go_wp2_with fail
  refine (HMay.out _ A.out.s).mono ?_
  rintro e w5 ⟨rfl, g⟩
  replace A := Lib.hid (A.out.keep g)
  replace B1 := Lib.hid (slE_keep g B1.out)
  replace B2 := Lib.hid (slE_keep g B2.out)
  replace Z0 := Lib.hid (slE_keep g Z0.out)
  replace R1 := Lib.hid (slE_keep g R1.out)
  replace R2 := Lib.hid (slE_keep g R2.out)
  clear g
  replace z1 := A.out.z1
  replace z0 := A.out.z0
  rw [sv_mk] at z0
  have F1 : Hid (passOk l a1 Z Z = true → decide (passL l a1 Z Z = a1) = true) := fun e => decide_eq_true (L1.out.2 e)
  have F2 : Hid (passOk l a1 Z Z = (decide (MayT l) && ((m1 : Int) == (n : Int)))) := by
    show _ = _
    rw [L1.out.1]
    congr 1
    rw [Bool.eq_iff_iff, decide_eq_true_iff, beq_iff_eq, E1.out, HL.out]
    omega
  have F3 : Hid (passOk l a1 a2 Z = true → passOk l (passL l a1 a2 Z) Z a2 = true ∧ decide (passL l (passL l a1 a2 Z) Z a2 = a1) = true) := fun e => ⟨(L2.out e).1, decide_eq_true (L2.out e).2⟩
  obtain ⟨eqn, heq⟩ : ∃ b, b = ((m1 : Int) == (n : Int)) := ⟨_, rfl⟩
  rw [← heq] at F2
  have teq : ((m1 : Int) == (n : Int)) = eqn := heq.symm
  generalize decide (passL l a1 Z Z = a1) = s1 at *
  generalize decide (MayT l) = my at *
  generalize passOk l a1 Z Z = o1 at *
  generalize passOk l a1 a2 Z = o2 at *
  clear L1 L2 K1 heq HMay
  obtain rfl : o1 = (my && eqn) := F2.out
  clear F2
  cases my
  case false =>
    cases eqn
    case false =>
      cases o2
      case false =>
        go_wp2_with fail
        go_ret
        exact ⟨rfl, A.out.g⟩
      obtain ⟨f1, f2⟩ := F3.out (by simp)
      go_wp2_with fail
      refine (HPa.out _ _ _ _ l (passL l a1 a2 Z) Z a2 _ A.out.s R1.out Z0.out B2.out).mono ?_
      rintro e w6 ⟨vc, rfl, hv, g⟩
      replace A := Lib.hid (A.out.keep g)
      replace B1 := Lib.hid (slE_keep g B1.out)
      replace B2 := Lib.hid (slE_keep g B2.out)
      replace Z0 := Lib.hid (slE_keep g Z0.out)
      replace R1 := Lib.hid (slE_keep g R1.out)
      replace R2 := Lib.hid (slE_keep g R2.out)
      have R3 := Lib.hid hv
      clear hv
      clear g
      replace z1 := A.out.z1
      replace z0 := A.out.z0
      rw [sv_mk] at z0
      have hs := ref08Same vc _ _ a1 _ R3.out B1.out (by have := K2.out; omega)
      rw [f2] at hs
      go_wp2_with fail
      refine (hs).mono ?_
      rintro e w7 ⟨rfl, g⟩
      replace A := Lib.hid (A.out.keep g)
      replace B1 := Lib.hid (slE_keep g B1.out)
      replace B2 := Lib.hid (slE_keep g B2.out)
      replace Z0 := Lib.hid (slE_keep g Z0.out)
      replace R1 := Lib.hid (slE_keep g R1.out)
      replace R2 := Lib.hid (slE_keep g R2.out)
      replace R3 := Lib.hid (slE_keep g R3.out)
      clear g
      replace z1 := A.out.z1
      replace z0 := A.out.z0
      rw [sv_mk] at z0
      clear hs
      generalize passOk l (passL l a1 a2 Z) Z a2 = o3 at *
      obtain rfl : o3 = true := f1
      go_wp2_with fail
      go_ret
      exact ⟨rfl, A.out.g⟩
    case true =>
      cases o2
      case false =>
        go_wp2_with fail
        go_ret
        exact ⟨rfl, A.out.g⟩
      obtain ⟨f1, f2⟩ := F3.out (by simp)
      go_wp2_with fail
      refine (HPa.out _ _ _ _ l (passL l a1 a2 Z) Z a2 _ A.out.s R1.out Z0.out B2.out).mono ?_
      rintro e w6 ⟨vc, rfl, hv, g⟩
      replace A := Lib.hid (A.out.keep g)
      replace B1 := Lib.hid (slE_keep g B1.out)
      replace B2 := Lib.hid (slE_keep g B2.out)
      replace Z0 := Lib.hid (slE_keep g Z0.out)
      replace R1 := Lib.hid (slE_keep g R1.out)
      replace R2 := Lib.hid (slE_keep g R2.out)
      have R3 := Lib.hid hv
      clear hv
      clear g
      replace z1 := A.out.z1
      replace z0 := A.out.z0
      rw [sv_mk] at z0
      have hs := ref08Same vc _ _ a1 _ R3.out B1.out (by have := K2.out; omega)
      rw [f2] at hs
      go_wp2_with fail
      refine (hs).mono ?_
      rintro e w7 ⟨rfl, g⟩
      replace A := Lib.hid (A.out.keep g)
      replace B1 := Lib.hid (slE_keep g B1.out)
      replace B2 := Lib.hid (slE_keep g B2.out)
      replace Z0 := Lib.hid (slE_keep g Z0.out)
      replace R1 := Lib.hid (slE_keep g R1.out)
      replace R2 := Lib.hid (slE_keep g R2.out)
      replace R3 := Lib.hid (slE_keep g R3.out)
      clear g
      replace z1 := A.out.z1
      replace z0 := A.out.z0
      rw [sv_mk] at z0
      clear hs
      generalize passOk l (passL l a1 a2 Z) Z a2 = o3 at *
      obtain rfl : o3 = true := f1
      go_wp2_with fail
      go_ret
      exact ⟨rfl, A.out.g⟩
  cases eqn
  case false =>
    cases o2
    case false =>
      go_wp2_with fail
      go_ret
      exact ⟨rfl, A.out.g⟩
    obtain ⟨f1, f2⟩ := F3.out (by simp)
    go_wp2_with fail
    refine (HPa.out _ _ _ _ l (passL l a1 a2 Z) Z a2 _ A.out.s R1.out Z0.out B2.out).mono ?_
    rintro e w6 ⟨vc, rfl, hv, g⟩
    replace A := Lib.hid (A.out.keep g)
    replace B1 := Lib.hid (slE_keep g B1.out)
    replace B2 := Lib.hid (slE_keep g B2.out)
    replace Z0 := Lib.hid (slE_keep g Z0.out)
    replace R1 := Lib.hid (slE_keep g R1.out)
    replace R2 := Lib.hid (slE_keep g R2.out)
    have R3 := Lib.hid hv
    clear hv
    clear g
    replace z1 := A.out.z1
    replace z0 := A.out.z0
    rw [sv_mk] at z0
    have hs := ref08Same vc _ _ a1 _ R3.out B1.out (by have := K2.out; omega)
    rw [f2] at hs
    go_wp2_with fail
    refine (hs).mono ?_
    rintro e w7 ⟨rfl, g⟩
    replace A := Lib.hid (A.out.keep g)
    replace B1 := Lib.hid (slE_keep g B1.out)
    replace B2 := Lib.hid (slE_keep g B2.out)
    replace Z0 := Lib.hid (slE_keep g Z0.out)
    replace R1 := Lib.hid (slE_keep g R1.out)
    replace R2 := Lib.hid (slE_keep g R2.out)
    replace R3 := Lib.hid (slE_keep g R3.out)
    clear g
    replace z1 := A.out.z1
    replace z0 := A.out.z0
    rw [sv_mk] at z0
    clear hs
    generalize passOk l (passL l a1 a2 Z) Z a2 = o3 at *
    obtain rfl : o3 = true := f1
    go_wp2_with fail
    go_ret
    exact ⟨rfl, A.out.g⟩
  obtain rfl : s1 = true := F1.out (by simp)
  cases o2
  case false =>
    go_wp2_with fail
    go_ret
    exact ⟨rfl, A.out.g⟩
  obtain ⟨f1, f2⟩ := F3.out (by simp)
  go_wp2_with fail
  refine (HPa.out _ _ _ _ l (passL l a1 a2 Z) Z a2 _ A.out.s R1.out Z0.out B2.out).mono ?_
  rintro e w6 ⟨vc, rfl, hv, g⟩
  replace A := Lib.hid (A.out.keep g)
  replace B1 := Lib.hid (slE_keep g B1.out)
  replace B2 := Lib.hid (slE_keep g B2.out)
  replace Z0 := Lib.hid (slE_keep g Z0.out)
  replace R1 := Lib.hid (slE_keep g R1.out)
  replace R2 := Lib.hid (slE_keep g R2.out)
  have R3 := Lib.hid hv
  clear hv
  clear g
  replace z1 := A.out.z1
  replace z0 := A.out.z0
  rw [sv_mk] at z0
  have hs := ref08Same vc _ _ a1 _ R3.out B1.out (by have := K2.out; omega)
  rw [f2] at hs
  go_wp2_with fail
  refine (hs).mono ?_
  rintro e w7 ⟨rfl, g⟩
  replace A := Lib.hid (A.out.keep g)
  replace B1 := Lib.hid (slE_keep g B1.out)
  replace B2 := Lib.hid (slE_keep g B2.out)
  replace Z0 := Lib.hid (slE_keep g Z0.out)
  replace R1 := Lib.hid (slE_keep g R1.out)
  replace R2 := Lib.hid (slE_keep g R2.out)
  replace R3 := Lib.hid (slE_keep g R3.out)
  clear g
  replace z1 := A.out.z1
  replace z0 := A.out.z0
  rw [sv_mk] at z0
  clear hs
  generalize passOk l (passL l a1 a2 Z) Z a2 = o3 at *
  obtain rfl : o3 = true := f1
  go_wp2_with fail
  go_ret
  exact ⟨rfl, A.out.g⟩
/-- The law. -/
theorem weightBackL (HSu : SubC) (HPa : PassC) (HSa : SameC) (s : Tr) (l : List Nd) (v1 : Value) (a1 : List UInt64) (v2 : Value) (a2 : List UInt64) (w : World) (h : SlE Ene w (sv s.n) l) (room : l.length * 56 ≤ 140737488355328) (h1 : SlE Enum w v1 a1) (h2 : SlE Enum w v2 a2) :
    Calls Try.prog 6 #[.agg (tr s), v1, v2] w fun e w' => e = .returned (.bool true) ∧ Below w.heap.size w w' := by
  obtain ⟨s⟩ := s
  have hn := sv_lenN h
  obtain ⟨p, n, cp⟩ := s
  have k1 := h1
  obtain ⟨q1, c1, rfl, _⟩ := slE_shape h1
  have k2 := h2
  obtain ⟨q2, c2, rfl, _⟩ := slE_shape h2
  exact weightBack_n HSu HPa HSa p n cp l q1 _ c1 a1 q2 _ c2 a2 w h hn k1 rfl k2 rfl room
end Go.Proofs.Ytonfmddjlhgglaa
