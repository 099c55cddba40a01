/-
  The law LateDue, walked. (written by wip/gen/law13.py)
-/
import Derived.Test.YtljehgohcchocaaW13
namespace Go.Proofs.Ytljehgohcchocaa
open Go.RowKit
set_option maxRecDepth 100000

set_option maxRecDepth 100000 in
set_option maxHeartbeats 8000000 in
theorem lateDue_n (H : LateC) (q : Option Addr) (n c : Nat) (l : List Aa) (now : Nat) (lt : Nat) (w : World) (h : SlE Eaa w (.slice q n c) l) (hl : l.length = n) (bnow : now < 18446744073709551616) (blt : lt < 18446744073709551616) :
    Calls Try.prog 4 #[.slice q n c, .int .u64 (now : Int), .int .u64 (lt : Int)] w fun e w' => e = .returned (.bool true) ∧ Below w.heap.size w w' := by
  have A : Hid (Aw w w (.slice q n c) l) := ⟨h, Below.refl _ _⟩
  have HL := Lib.hid hl
  have Bnow := Lib.hid bnow
  have Blt := Lib.hid blt
  have HAw := Lib.hid (fun W => awake_any13 H W)
  have HH := Lib.hid H
  clear H h hl bnow blt
  go_enter Try.func4, Try.ntmps4
  go_wp2_with fail
  refine (HAw.out _).mono ?_
  rintro e w1 ⟨rfl, g⟩
  replace A := Lib.hid (A.out.keep g)
  clear g
  by_cases h1 : 60 < n
  · have h1i : decide ((60 : Int) < (n : Int)) = true := decide_eq_true (by omega)
    have h1i' : decide (60 < n) = true := decide_eq_true (by omega)
    clear h1
    go_wp2_with fail
    go_ret
    exact ⟨rfl, A.out.g⟩
  have h1i : decide ((60 : Int) < (n : Int)) = false := decide_eq_false (by omega)
  have h1i' : decide (60 < n) = false := decide_eq_false (by omega)
  by_cases h2 : lt < now
  · have h2i : decide ((lt : Int) < (now : Int)) = true := decide_eq_true (by omega)
    have h2i' : decide (lt < now) = true := decide_eq_true (by omega)
    clear h2
    go_wp2_with fail
    go_ret
    exact ⟨rfl, A.out.g⟩
  have h2i : decide ((lt : Int) < (now : Int)) = false := decide_eq_false (by omega)
  have h2i' : decide (lt < now) = false := decide_eq_false (by omega)
  have hn : l.length ≤ 1000 := by have := HL.out; omega
  have HA := Lib.hid (fun W (g : SlE Eaa W (.slice q n c) l) => HH.out.due _ l now W Bnow.out g hn)
  have HC := Lib.hid (fun W (g : SlE Eaa W (.slice q n c) l) => HH.out.due _ l lt W Blt.out g hn)
  have HN := Lib.hid (fun W (g : SlE Eaa W (.slice q n c) l) => HH.out.next _ l W g hn)
  have hr : (restL l now).length ≤ 1000 := Nat.le_trans rest_le hn
  have HB := Lib.hid (fun v W (g : SlE Eaa W v (restL l now)) => HH.out.due v _ lt W Blt.out g hr)
  obtain ⟨e1, e2⟩ := due_later (l := l) (now := now) (later := lt) (by omega)
  have e3 := due_len (l := l) (now := now)
  have e4 := next_due (l := l) (now := now)
  have e5 : (dueL l lt).length ≤ 1000 := Nat.le_trans due_le hn
  rw [e1] at HB
  have K1 : Hid ((restL l lt).length ≤ 1000) := Lib.hid (Nat.le_trans rest_le hn)
  have hsome : someA l = decide (0 < n) := by unfold someA; rw [← HL.out, Bool.eq_iff_iff, Bool.not_eq_true', decide_eq_false_iff_not, decide_eq_true_iff]; exact List.length_pos_iff.symm
  rw [hsome] at HN
  have hne : l ≠ [] ↔ 0 < n := by rw [← HL.out]; exact List.length_pos_iff.symm
  rw [hne] at e4
  rw [HL.out] at e3
  obtain ⟨na, hna⟩ : ∃ z, z = (dueL l now).length := ⟨_, rfl⟩
  obtain ⟨nr, hnr⟩ : ∃ z, z = (restL l now).length := ⟨_, rfl⟩
  obtain ⟨nb, hnb⟩ : ∃ z, z = (dueL (restL l now) lt).length := ⟨_, rfl⟩
  obtain ⟨nc, hnc⟩ : ∃ z, z = (dueL l lt).length := ⟨_, rfl⟩
  rw [← hna, ← hnb, ← hnc] at e2
  rw [← hna, ← hnr] at e3
  rw [← hna] at e4
  rw [← hnc] at e5
  have La := Lib.hid hna.symm
  have Lr := Lib.hid hnr.symm
  have Lb := Lib.hid hnb.symm
  have Lc := Lib.hid hnc.symm
  generalize dueL l now = DA at *
  generalize dueL (restL l now) lt = DB at *
  generalize restL l now = RA at *
  generalize dueL l lt = DC at *
  generalize restL l lt = RC at *
  generalize nextN l = N1 at *
  have Hnn := Lib.hid hn
  have q1 : ((na : Int) + (nr : Int) != (n : Int)) = false := by rw [bne_eq_false_iff_eq]; omega
  have q2 : ((na : Int) + (nb : Int) != (nc : Int)) = false := by rw [bne_eq_false_iff_eq]; omega
  have s1 : (na : Int) + (nr : Int) < 10000 := by omega
  have s2 : (na : Int) + (nb : Int) < 10000 := by omega
  have hx : (0 < na) = (0 < n ∧ N1 < now) := propext e4
  have E4 := Lib.hid hx
  have Q1 := Lib.hid q1
  have Q2 := Lib.hid q2
  have S1 : Unit → (na : Int) + (nr : Int) < 10000 := fun _ => s1
  have S2 : Unit → (na : Int) + (nb : Int) < 10000 := fun _ => s2
  clear e1 e2 e3 e4 e5 hna hnr hnb hnc hn hr hsome hne h1 h2 hx q1 q2 s1 s2
  go_wp2_with fail
  refine (HA.out _ A.out.s).mono ?_
  rintro e w2 ⟨va, vr, rfl, ha, hr, g⟩
  replace A := Lib.hid (A.out.keep g)
  have Sa := Lib.hid ha
  have Sr := Lib.hid hr
  clear ha hr
  clear g
  obtain ⟨pa, ca, rfl⟩ := slE_len Sa.out La.out
  obtain ⟨pr, cr, rfl⟩ := slE_len Sr.out Lr.out
  go_wp2_with fail
  refine (HB.out _ _ Sr.out).mono ?_
  rintro e w3 ⟨vb, vm, rfl, hb, hm, g⟩
  replace A := Lib.hid (A.out.keep g)
  replace Sa := Lib.hid (slE_keep g Sa.out)
  replace Sr := Lib.hid (slE_keep g Sr.out)
  have Sb := Lib.hid hb
  have Sm := Lib.hid hm
  clear hb hm
  clear g
  obtain ⟨pb, cb, rfl⟩ := slE_len Sb.out Lb.out
  go_wp2_with fail
  refine (HC.out _ A.out.s).mono ?_
  rintro e w4 ⟨vc, vo, rfl, hc, ho, g⟩
  replace A := Lib.hid (A.out.keep g)
  replace Sa := Lib.hid (slE_keep g Sa.out)
  replace Sr := Lib.hid (slE_keep g Sr.out)
  replace Sb := Lib.hid (slE_keep g Sb.out)
  replace Sm := Lib.hid (slE_keep g Sm.out)
  have Sc := Lib.hid hc
  have So := Lib.hid ho
  clear hc ho
  clear g
  obtain ⟨pc, cc, rfl⟩ := slE_len Sc.out Lc.out
  go_wp2_with fail
  refine (HN.out _ A.out.s).mono ?_
  rintro e w5 ⟨rfl, g⟩
  replace A := Lib.hid (A.out.keep g)
  replace Sa := Lib.hid (slE_keep g Sa.out)
  replace Sr := Lib.hid (slE_keep g Sr.out)
  replace Sb := Lib.hid (slE_keep g Sb.out)
  replace Sm := Lib.hid (slE_keep g Sm.out)
  replace Sc := Lib.hid (slE_keep g Sc.out)
  replace So := Lib.hid (slE_keep g So.out)
  clear g
  have hs := fun W g1 g2 => ref13Same vm vo RC RC W g1 g2 K1.out
  rw [decide_eq_true rfl] at hs
  have Hs := Lib.hid hs
  clear hs
  go_wp2_with fail
  refine (Hs.out _ Sm.out So.out).mono ?_
  rintro e w6 ⟨rfl, g⟩
  replace A := Lib.hid (A.out.keep g)
  replace Sa := Lib.hid (slE_keep g Sa.out)
  replace Sr := Lib.hid (slE_keep g Sr.out)
  replace Sb := Lib.hid (slE_keep g Sb.out)
  replace Sm := Lib.hid (slE_keep g Sm.out)
  replace Sc := Lib.hid (slE_keep g Sc.out)
  replace So := Lib.hid (slE_keep g So.out)
  clear g
  clear Sa Sr Sb Sm Sc So
  have q1 := Q1.out
  have q2 := Q2.out
  have s1 := S1 ()
  have s2 := S2 ()
  by_cases hn0 : 0 < n
  · have d0 : decide ((0 : Int) < (n : Int)) = true := decide_eq_true (by omega)
    have d0' : decide (0 < n) = true := decide_eq_true hn0
    by_cases hN : N1 < now
    · have ha : 0 < na := by rw [E4.out]; exact ⟨hn0, hN⟩
      have d1 : decide ((0 : Int) < (na : Int)) = true := decide_eq_true (by omega)
      have d1' : decide (0 < na) = true := decide_eq_true ha
      have d2 : decide ((N1 : Int) < (now : Int)) = true := decide_eq_true (by omega)
      have d2' : decide (N1 < now) = true := decide_eq_true hN
      clear ha hN hn0
      go_wp2_with fail
      go_ret
      exact ⟨rfl, A.out.g⟩
    · have ha : ¬ 0 < na := by rw [E4.out]; exact fun e => hN e.2
      have d1 : decide ((0 : Int) < (na : Int)) = false := decide_eq_false (by omega)
      have d1' : decide (0 < na) = false := decide_eq_false ha
      have d2 : decide ((N1 : Int) < (now : Int)) = false := decide_eq_false (by omega)
      have d2' : decide (N1 < now) = false := decide_eq_false hN
      clear ha hN hn0
      go_wp2_with fail
      go_ret
      exact ⟨rfl, A.out.g⟩
  · have ha : ¬ 0 < na := by rw [E4.out]; exact fun e => hn0 e.1
    have d0 : decide ((0 : Int) < (n : Int)) = false := decide_eq_false (by omega)
    have d0' : decide (0 < n) = false := decide_eq_false hn0
    have d1 : decide ((0 : Int) < (na : Int)) = false := decide_eq_false (by omega)
    have d1' : decide (0 < na) = false := decide_eq_false ha
    clear ha hn0
    go_wp2_with fail
    go_ret
    exact ⟨rfl, A.out.g⟩
/-- The law. -/
theorem lateDueL (H : LateC) (v1 : Value) (l : List Aa) (now : UInt64) (lt : UInt64) (w : World) (h : SlE Eaa w v1 l) :
    Calls Try.prog 4 #[v1, .int .u64 (now.toNat : Int), .int .u64 (lt.toNat : Int)] w fun e w' => e = .returned (.bool true) ∧ Below w.heap.size w w' := by
  have k1 := h
  obtain ⟨q, c, rfl, _⟩ := slE_shape h
  exact lateDue_n H q _ c l now.toNat lt.toNat w k1 rfl now.toNat_lt lt.toNat_lt
end Go.Proofs.Ytljehgohcchocaa
