/-
  The law DeltaBound, walked. (written by wip/gen/law14.py)
-/
import Derived.Test.YtccihllcohnnnaaQ27
import Derived.Test.YtccihllcohnnnaaQ28
namespace Go.Proofs.Ytccihllcohnnnaa
open Go.RowKit
set_option maxRecDepth 100000

set_option maxRecDepth 100000 in
set_option maxHeartbeats 8000000 in
theorem deltaBound_n (H : DeltaC) (H' : BesideC) (pt : Option Addr) (nt ct : Nat) (l : List Nd) (pwas : Option Addr) (nwas cwas : Nat) (was : Vt) (pis : Option Addr) (nis cis : Nat) (is : Vt) (pbal : Option Addr) (nbal cbal : Nat) (bal : List UInt64) (w : World) (ht : SlE Ene w (.slice pt nt ct) l) (lt : l.length = nt) (hwas : SlE Elt w (.slice pwas nwas cwas) was.l) (lwas : was.l.length = nwas) (his : SlE Elt w (.slice pis nis cis) is.l) (lis : is.l.length = nis) (hbal : SlE Enum w (.slice pbal nbal cbal) bal) (lbal : bal.length = nbal) :
    Calls Try.prog 8 #[.agg (tr ⟨⟨pt, nt, ct⟩⟩), .agg (vo ⟨⟨pwas, nwas, cwas⟩, was.out⟩), .agg (vo ⟨⟨pis, nis, cis⟩, is.out⟩), .slice pbal nbal cbal] w fun e w' => e = .returned (.bool true) ∧ Below w.heap.size w w' := by
  obtain ⟨W0, hW0⟩ : ∃ W0, W0 = (((w.alloc (.cells (tr ⟨⟨pt, nt, ct⟩⟩) 24)).alloc (.cells (vo ⟨⟨pwas, nwas, cwas⟩, was.out⟩) 28)).alloc (.cells (vo ⟨⟨pis, nis, cis⟩, is.out⟩) 28)) := ⟨_, rfl⟩
  obtain ⟨hB, b0, b1, b2, _⟩ := heap3 w _ _ _ _ _ _ W0 hW0
  have A : Hid (Tw w W0 (w.heap.size) ⟨pt, nt, ct⟩ l) := ⟨b0, slE_keep hB ht, hB⟩
  have Awas : Hid (Vw w W0 (w.heap.size + 1) ⟨pwas, nwas, cwas⟩ was) := ⟨b1, slE_keep hB hwas, hB⟩
  have Ais : Hid (Vw w W0 (w.heap.size + 2) ⟨pis, nis, cis⟩ is) := ⟨b2, slE_keep hB his, hB⟩
  have Lt := Lib.hid lt
  have Lwas := Lib.hid lwas
  have Lis := Lib.hid lis
  have Lbal := Lib.hid lbal
  have Kbal := Lib.hid (slE_keep hB hbal)
  have HW := Lib.hid hW0
  have HAw := Lib.hid (fun W => awake_any14 H H' W)
  have HH := Lib.hid H
  have HJ := Lib.hid H'
  clear H H' hW0 hB b0 b1 b2 ht lt hwas lwas his lis hbal lbal
  go_enter Try.func8, Try.ntmps8
  go_wp2_with fail
  rw [← HW.out]
  refine (HAw.out _).mono ?_
  rintro e w1 ⟨rfl, g⟩
  replace A := Lib.hid (A.out.keep g)
  replace Awas := Lib.hid (Awas.out.keep g)
  replace Ais := Lib.hid (Ais.out.keep g)
  replace Kbal := Lib.hid (slE_keep g Kbal.out)
  clear g
  have z0t := A.out.z0
  rw [sv_mk] at z0t
  have z0was := Awas.out.z0
  rw [sv_mk] at z0was
  have z0is := Ais.out.z0
  rw [sv_mk] at z0is
  by_cases h1 : 20 < nt
  · have h1i : decide ((20 : Int) < (nt : Int)) = true := decide_eq_true (by omega)
    have h1i' : decide (20 < nt) = true := decide_eq_true (by omega)
    clear h1
    go_wp2_with fail
    go_ret
    exact ⟨rfl, A.out.g⟩
  have h1i : decide ((20 : Int) < (nt : Int)) = false := decide_eq_false (by omega)
  have h1i' : decide (20 < nt) = false := decide_eq_false (by omega)
  by_cases h2 : 20 < nwas
  · have h2i : decide ((20 : Int) < (nwas : Int)) = true := decide_eq_true (by omega)
    have h2i' : decide (20 < nwas) = true := decide_eq_true (by omega)
    clear h2
    go_wp2_with fail
    go_ret
    exact ⟨rfl, A.out.g⟩
  have h2i : decide ((20 : Int) < (nwas : Int)) = false := decide_eq_false (by omega)
  have h2i' : decide (20 < nwas) = false := decide_eq_false (by omega)
  by_cases h3 : 20 < nis
  · have h3i : decide ((20 : Int) < (nis : Int)) = true := decide_eq_true (by omega)
    have h3i' : decide (20 < nis) = true := decide_eq_true (by omega)
    clear h3
    go_wp2_with fail
    go_ret
    exact ⟨rfl, A.out.g⟩
  have h3i : decide ((20 : Int) < (nis : Int)) = false := decide_eq_false (by omega)
  have h3i' : decide (20 < nis) = false := decide_eq_false (by omega)
  have HF1 := Lib.hid (fun W (h : SlE Ene W (.slice pt nt ct) l) (h1 : SlE Elt W (.slice pwas nwas cwas) was.l) (h2 : SlE Elt W (.slice pis nis cis) is.l) (h9 : SlE Enum W (.slice pbal nbal cbal) bal) => HH.out.of ⟨pt, nt, ct⟩ ⟨pwas, nwas, cwas⟩ ⟨pis, nis, cis⟩ _ l was is bal W h h1 h2 h9)
  have HW1 := Lib.hid (fun W (h : SlE Ene W (.slice pt nt ct) l) (h1 : SlE Elt W (.slice pwas nwas cwas) was.l) (h9 : SlE Enum W (.slice pbal nbal cbal) bal) => HH.out.weights ⟨pt, nt, ct⟩ ⟨pwas, nwas, cwas⟩ _ l was bal W h h1 h9)
  have HO2 := Lib.hid (fun W (h : SlE Ene W (.slice pt nt ct) l) (h1 : SlE Elt W (.slice pis nis cis) is.l) (h9 : SlE Enum W (.slice pbal nbal cbal) bal) => HH.out.own ⟨pt, nt, ct⟩ ⟨pis, nis, cis⟩ _ l is bal W h h1 h9)
  have HT := Lib.hid (fun W (h9 : SlE Enum W (.slice pbal nbal cbal) bal) => HJ.out.total _ bal W h9)
  have HFE : Hid (ofB l was is bal = (fitB l was bal && fitB l is bal)) := Lib.hid rfl
  obtain ⟨m, hm⟩ : ∃ m, m = (plusL l was is bal).length := ⟨_, rfl⟩
  have HM : Hid ((plusL l was is bal).length = m ∧ (minusL l was is bal).length = m ∧ m ≤ 20) := by
    refine ⟨hm.symm, ?_, by rw [hm]; exact plus_le20 (by have := Lt.out; omega)⟩
    cases ho : ofB l was is bal
    · rw [hm, minusL_no ho, plusL_no ho]
    · rw [hm, minus_len ho, plus_len ho]
  have HB : Hid (∀ j, j ≤ m → sumF (fn (plusL l was is bal)) j ≤ totS bal ∧ sumF (fn (minusL l was is bal)) j ≤ totS bal) := fun j hj => by
    cases ho : ofB l was is bal
    · rw [hm, plusL_no ho] at hj
      obtain rfl : j = 0 := Nat.le_zero.1 hj
      exact ⟨Nat.zero_le _, Nat.zero_le _⟩
    · exact law_dbound ho (by rw [hm, plus_len ho] at hj; exact hj)
  have HTl : Hid (totS bal ≤ 8796093022208) := ofS_lt
  clear hm h1 h2 h3
  generalize ownL l is bal = O at *
  generalize wtsL l was bal = V at *
  generalize plusL l was is bal = P at *
  generalize minusL l was is bal = N at *
  generalize fitB l was bal = f1 at *
  generalize fitB l is bal = f2 at *
  generalize ofB l was is bal = fp at *
  generalize totS bal = tt at *
  have z1t := A.out.z1
  have z1was := Awas.out.z1
  have z1is := Ais.out.z1
  go_wp2_with fail
  refine (HF1.out _ A.out.s Awas.out.s Ais.out.s Kbal.out).mono ?_
  rintro e w2 ⟨u1, u2, rfl, hs, ht, g⟩
  replace A := Lib.hid (A.out.keep g)
  replace Awas := Lib.hid (Awas.out.keep g)
  replace Ais := Lib.hid (Ais.out.keep g)
  replace Kbal := Lib.hid (slE_keep g Kbal.out)
  have U1 := Lib.hid hs
  have U2 := Lib.hid ht
  clear g z1t z1was z1is hs ht z0t z0was z0is
  have z1t := A.out.z1
  have z1was := Awas.out.z1
  go_wp2_with fail
  refine (HW1.out _ A.out.s Awas.out.s Kbal.out).mono ?_
  rintro e w3 ⟨u3, rfl, hs, g⟩
  replace A := Lib.hid (A.out.keep g)
  replace Awas := Lib.hid (Awas.out.keep g)
  replace Ais := Lib.hid (Ais.out.keep g)
  replace Kbal := Lib.hid (slE_keep g Kbal.out)
  replace U1 := Lib.hid (slE_keep g U1.out)
  replace U2 := Lib.hid (slE_keep g U2.out)
  have U3 := Lib.hid hs
  clear g z1t z1was hs
  have z1t := A.out.z1
  have z1is := Ais.out.z1
  go_wp2_with fail
  refine (HO2.out _ A.out.s Ais.out.s Kbal.out).mono ?_
  rintro e w4 ⟨u4, rfl, hs, g⟩
  replace A := Lib.hid (A.out.keep g)
  replace Awas := Lib.hid (Awas.out.keep g)
  replace Ais := Lib.hid (Ais.out.keep g)
  replace Kbal := Lib.hid (slE_keep g Kbal.out)
  replace U1 := Lib.hid (slE_keep g U1.out)
  replace U2 := Lib.hid (slE_keep g U2.out)
  replace U3 := Lib.hid (slE_keep g U3.out)
  have U4 := Lib.hid hs
  clear g z1t z1is hs
  obtain ⟨p1, c1, rfl⟩ := slE_len U1.out HM.out.1
  obtain ⟨p2, c2, rfl⟩ := slE_len U2.out HM.out.2.1
  clear U3 U4 HF1 HW1 HO2
  go_wp2_with fail
  go_loopw [17, 18, 19] (fun a b i wr => ∃ j : Nat, j ≤ m ∧ i = .int .i64 (j : Int) ∧ a = .int .u64 (sumF (fn P) j : Int) ∧ b = .int .u64 (sumF (fn N) j : Int) ∧ wr = w4) (fun _ _ i _ => m - (intOf i).toNat)
  case atStart => exact ⟨0, Nat.zero_le _, rfl, rfl, rfl, rfl⟩
  case round =>
    obtain ⟨j, hj, rfl, rfl, rfl, rfl⟩ := hrel
    by_cases hlt : j < m
    · have i0 : (0 : Int) ≤ (j : Int) := by omega
      have i1 : (j : Int) < (m : Int) := by omega
      have u1 : (j : Int) + 1 < 10000 := by have := HM.out.2.2; omega
      have d0 : decide ((j : Int) < (m : Int)) = true := decide_eq_true i1
      have d0' : decide (j < m) = true := decide_eq_true hlt
      obtain ⟨b1, o1, rfl, _, x1⟩ := nums_ptr U1.out (by have := HM.out.1; omega)
      obtain ⟨b2, o2, rfl, _, x2⟩ := nums_ptr U2.out (by have := HM.out.2.1; omega)
      have y1 := nums_cell x1 (i := j) (by have := HM.out.1; omega)
      have y2 := nums_cell x2 (i := j) (by have := HM.out.2.1; omega)
      have hb := HB.out (j + 1) hlt
      rw [show sumF (fn P) (j + 1) = sumF (fn P) j + fn P j from rfl, show sumF (fn N) (j + 1) = sumF (fn N) j + fn N j from rfl] at hb
      have HE1 : Hid (sumF (fn P) (j + 1) = sumF (fn P) j + fn P j) := Lib.hid rfl
      have HE2 : Hid (sumF (fn N) (j + 1) = sumF (fn N) j + fn N j) := Lib.hid rfl
      have htl := HTl.out
      obtain ⟨s, hs⟩ : ∃ s, s = sumF (fn P) j := ⟨_, rfl⟩
      obtain ⟨t, ht⟩ : ∃ t, t = sumF (fn N) j := ⟨_, rfl⟩
      obtain ⟨x, hx⟩ : ∃ x, x = fn P j := ⟨_, rfl⟩
      obtain ⟨y, hy⟩ : ∃ y, y = fn N j := ⟨_, rfl⟩
      rw [← hs, ← hx] at HE1
      rw [← ht, ← hy] at HE2
      rw [← hs, ← hx, ← ht, ← hy] at hb
      rw [← hx] at y1
      rw [← hy] at y2
      rw [← hs, ← ht]
      have v1 : (s : Int) + (x : Int) < 18446744073709551616 := by omega
      have v2 : (t : Int) + (y : Int) < 18446744073709551616 := by omega
      have HLT := Lib.hid hlt
      clear hlt x1 x2 hb htl hs ht hx hy
      go_wp2_with fail
      go_roundw
      case rel => exact ⟨j + 1, HLT.out, by go_num, by rw [HE1.out]; first | done | rfl | (rw [Int.natCast_add]), by rw [HE2.out]; first | done | rfl | (rw [Int.natCast_add]), by first | rfl | trivial⟩
      case measure => simp [intOf]; have := HLT.out; omega
    · obtain rfl : j = m := by omega
      have hb := HB.out j (Nat.le_refl _)
      have hfe := HFE.out
      generalize sumF (fn P) j = s at *
      generalize sumF (fn N) j = t at *
      have q1 : decide ((s : Int) ≤ (tt : Int)) = true := decide_eq_true (by omega)
      have q1' : decide (s ≤ tt) = true := decide_eq_true hb.1
      have q2 : decide ((t : Int) ≤ (tt : Int)) = true := decide_eq_true (by omega)
      have q2' : decide (t ≤ tt) = true := decide_eq_true hb.2
      subst hfe
      clear hlt hb HB
      cases f1 <;> cases f2 <;> (
        go_wp2_with fail
        refine (HT.out _ Kbal.out).mono ?_
        rintro e w8 ⟨rfl, g⟩
        have A8 := Lib.hid (A.out.keep g)
        have K8 := Lib.hid (slE_keep g Kbal.out)
        clear g
        go_wp2_with fail
        refine (HT.out _ K8.out).mono ?_
        rintro e w9 ⟨rfl, g⟩
        have A9 := Lib.hid (A8.out.keep g)
        clear g
        go_wp2_with fail
        go_ret
        exact ⟨rfl, A9.out.g⟩)
/-- The law. -/
theorem deltaBoundL (H : DeltaC) (H' : BesideC) (tt : Tr) (l : List Nd) (twas : SlV) (was : Vt) (tis : SlV) (is : Vt) (vbal : Value) (bal : List UInt64) (w : World) (ht : SlE Ene w (sv tt.n) l) (hwas : SlE Elt w (sv twas) was.l) (his : SlE Elt w (sv tis) is.l) (hbal : SlE Enum w vbal bal) :
    Calls Try.prog 8 #[.agg (tr tt), .agg (vo ⟨twas, was.out⟩), .agg (vo ⟨tis, is.out⟩), vbal] w fun e w' => e = .returned (.bool true) ∧ Below w.heap.size w w' := by
  obtain ⟨⟨pt, nt, ct⟩⟩ := tt
  have lt := sv_lenN ht
  dsimp only at lt
  have lwas := sv_lenT hwas
  obtain ⟨pwas, nwas, cwas⟩ := twas
  dsimp only at lwas
  have lis := sv_lenT his
  obtain ⟨pis, nis, cis⟩ := tis
  dsimp only at lis
  have kbal := hbal
  obtain ⟨pbal, cbal, rfl, _⟩ := slE_shape hbal
  exact deltaBound_n H H' pt _ ct l pwas _ cwas was pis _ cis is pbal _ cbal bal w ht lt hwas lwas his lis kbal rfl
end Go.Proofs.Ytccihllcohnnnaa
