/-
  The law DeltaPass, walked. (written by wip/gen/law14.py)
-/
import Derived.Test.YtccihllcohnnnaaQ27
import Derived.Test.YtccihllcohnnnaaQ28
namespace Go.Proofs.Ytccihllcohnnnaa
open Go.RowKit
set_option maxRecDepth 100000

set_option maxRecDepth 100000 in
set_option maxHeartbeats 8000000 in
theorem deltaPass_n (H : DeltaC) (H' : BesideC) (pt : Option Addr) (nt ct : Nat) (l : List Nd) (pwas : Option Addr) (nwas cwas : Nat) (was : Vt) (pis : Option Addr) (nis cis : Nat) (is : Vt) (pbal : Option Addr) (nbal cbal : Nat) (bal : List UInt64) (w : World) (ht : SlE Ene w (.slice pt nt ct) l) (lt : l.length = nt) (hwas : SlE Elt w (.slice pwas nwas cwas) was.l) (lwas : was.l.length = nwas) (his : SlE Elt w (.slice pis nis cis) is.l) (lis : is.l.length = nis) (hbal : SlE Enum w (.slice pbal nbal cbal) bal) (lbal : bal.length = nbal) :
    Calls Try.prog 4 #[.agg (tr ⟨⟨pt, nt, ct⟩⟩), .agg (vo ⟨⟨pwas, nwas, cwas⟩, was.out⟩), .agg (vo ⟨⟨pis, nis, cis⟩, is.out⟩), .slice pbal nbal cbal] w fun e w' => e = .returned (.bool true) ∧ Below w.heap.size w w' := by
  obtain ⟨W0, hW0⟩ : ∃ W0, W0 = (((w.alloc (.cells (tr ⟨⟨pt, nt, ct⟩⟩) 24)).alloc (.cells (vo ⟨⟨pwas, nwas, cwas⟩, was.out⟩) 28)).alloc (.cells (vo ⟨⟨pis, nis, cis⟩, is.out⟩) 28)) := ⟨_, rfl⟩
  obtain ⟨hB, b0, b1, b2, _⟩ := heap3 w _ _ _ _ _ _ W0 hW0
  have A : Hid (Tw w W0 (w.heap.size) ⟨pt, nt, ct⟩ l) := ⟨b0, slE_keep hB ht, hB⟩
  have Awas : Hid (Vw w W0 (w.heap.size + 1) ⟨pwas, nwas, cwas⟩ was) := ⟨b1, slE_keep hB hwas, hB⟩
  have Ais : Hid (Vw w W0 (w.heap.size + 2) ⟨pis, nis, cis⟩ is) := ⟨b2, slE_keep hB his, hB⟩
  have Lt := Lib.hid lt
  have Lwas := Lib.hid lwas
  have Lis := Lib.hid lis
  have Lbal := Lib.hid lbal
  have Kbal := Lib.hid (slE_keep hB hbal)
  have HW := Lib.hid hW0
  have HAw := Lib.hid (fun W => awake_any14 H H' W)
  have HH := Lib.hid H
  have HJ := Lib.hid H'
  clear H H' hW0 hB b0 b1 b2 ht lt hwas lwas his lis hbal lbal
  go_enter Try.func4, Try.ntmps4
  go_wp2_with fail
  rw [← HW.out]
  refine (HAw.out _).mono ?_
  rintro e w1 ⟨rfl, g⟩
  replace A := Lib.hid (A.out.keep g)
  replace Awas := Lib.hid (Awas.out.keep g)
  replace Ais := Lib.hid (Ais.out.keep g)
  replace Kbal := Lib.hid (slE_keep g Kbal.out)
  clear g
  have HS : Hid (∀ (u v : Value) (a : List UInt64) (W : World), SlE Enum W u a → SlE Enum W v a → a.length ≤ 20 → Calls Try.prog 16 #[u, v] W fun e w' => e = .returned (.bool true) ∧ Below W.heap.size W w') := fun u v a W h h' hl => by
    have := ref08Same u v a a W h h' (by omega)
    rwa [decide_eq_true rfl] at this
  have HW1 := Lib.hid (fun W (h : SlE Ene W (.slice pt nt ct) l) (h1 : SlE Elt W (.slice pwas nwas cwas) was.l) (h2 : SlE Enum W (.slice pbal nbal cbal) bal) => HH.out.weights ⟨pt, nt, ct⟩ ⟨pwas, nwas, cwas⟩ _ l was bal W h h1 h2)
  have HW2 := Lib.hid (fun W (h : SlE Ene W (.slice pt nt ct) l) (h1 : SlE Elt W (.slice pis nis cis) is.l) (h2 : SlE Enum W (.slice pbal nbal cbal) bal) => HH.out.weights ⟨pt, nt, ct⟩ ⟨pis, nis, cis⟩ _ l is bal W h h1 h2)
  have HF1 := Lib.hid (fun W (h : SlE Ene W (.slice pt nt ct) l) (h1 : SlE Elt W (.slice pwas nwas cwas) was.l) (h2 : SlE Elt W (.slice pis nis cis) is.l) (h3 : SlE Enum W (.slice pbal nbal cbal) bal) => HH.out.of ⟨pt, nt, ct⟩ ⟨pwas, nwas, cwas⟩ ⟨pis, nis, cis⟩ _ l was is bal W h h1 h2 h3)
  have HP := Lib.hid (fun W (a b c : Value) (h : SlE Ene W (.slice pt nt ct) l) (h1 : SlE Enum W a (wtsL l was bal)) (h2 : SlE Enum W b (plusL l was is bal)) (h3 : SlE Enum W c (minusL l was is bal)) => HJ.out.pass ⟨pt, nt, ct⟩ a b c l _ _ _ W h h1 h2 h3)
  have HX : Hid (fitB l was bal = true → fitB l is bal = true → ofB l was is bal = true ∧ passOk l (wtsL l was bal) (plusL l was is bal) (minusL l was is bal) = true ∧ passL l (wtsL l was bal) (plusL l was is bal) (minusL l was is bal) = wtsL l is bal) := fun e1 e2 => ⟨of_iff.2 ⟨e1, e2⟩, law_dpass (of_iff.2 ⟨e1, e2⟩)⟩
  have k2 : Hid (nt ≤ 20 → (wtsL l is bal).length ≤ 20) := fun e => wts_le20 (by have := Lt.out; omega)
  obtain ⟨pa, hpa⟩ : ∃ p, p = passL l (wtsL l was bal) (plusL l was is bal) (minusL l was is bal) := ⟨_, rfl⟩
  obtain ⟨po, hpo⟩ : ∃ p, p = passOk l (wtsL l was bal) (plusL l was is bal) (minusL l was is bal) := ⟨_, rfl⟩
  rw [← hpa, ← hpo] at HX
  have HP2 : Hid (∀ W (a b c : Value), SlE Ene W (.slice pt nt ct) l → SlE Enum W a (wtsL l was bal) → SlE Enum W b (plusL l was is bal) → SlE Enum W c (minusL l was is bal) → Calls Try.prog 17 #[.agg (tr ⟨⟨pt, nt, ct⟩⟩), a, b, c] W (NumsIs pa po W)) := fun W a b c h h1 h2 h3 => by rw [hpa, hpo]; exact HP.out W a b c h h1 h2 h3
  clear HP hpa hpo
  generalize wtsL l was bal = V at *
  generalize wtsL l is bal = X at *
  generalize plusL l was is bal = P at *
  generalize minusL l was is bal = N at *
  generalize fitB l was bal = f1 at *
  generalize fitB l is bal = f2 at *
  generalize ofB l was is bal = fp at *
  have z1t := A.out.z1
  have z1was := Awas.out.z1
  go_wp2_with fail
  refine (HW1.out _ A.out.s Awas.out.s Kbal.out).mono ?_
  rintro e w2 ⟨u1, rfl, hs, g⟩
  replace A := Lib.hid (A.out.keep g)
  replace Awas := Lib.hid (Awas.out.keep g)
  replace Ais := Lib.hid (Ais.out.keep g)
  replace Kbal := Lib.hid (slE_keep g Kbal.out)
  have U1 := Lib.hid hs
  clear g z1t z1was hs
  have z1t := A.out.z1
  have z1is := Ais.out.z1
  go_wp2_with fail
  refine (HW2.out _ A.out.s Ais.out.s Kbal.out).mono ?_
  rintro e w3 ⟨u2, rfl, hs, g⟩
  replace A := Lib.hid (A.out.keep g)
  replace Awas := Lib.hid (Awas.out.keep g)
  replace Ais := Lib.hid (Ais.out.keep g)
  replace Kbal := Lib.hid (slE_keep g Kbal.out)
  replace U1 := Lib.hid (slE_keep g U1.out)
  have U2 := Lib.hid hs
  clear g z1t z1is hs
  have z0t := A.out.z0
  rw [sv_mk] at z0t
  by_cases h1 : 20 < nt
  · have h1i : decide ((20 : Int) < (nt : Int)) = true := decide_eq_true (by omega)
    have h1i' : decide (20 < nt) = true := decide_eq_true (by omega)
    clear h1
    go_wp2_with fail
    go_ret
    exact ⟨rfl, A.out.g⟩
  have h1i : decide ((20 : Int) < (nt : Int)) = false := decide_eq_false (by omega)
  have h1i' : decide (20 < nt) = false := decide_eq_false (by omega)
  have K2 := Lib.hid (k2.out (by omega))
  clear h1 k2
  cases f1
  · skip
    go_wp2_with fail
    go_ret
    exact ⟨rfl, A.out.g⟩
  cases f2
  · skip
    go_wp2_with fail
    go_ret
    exact ⟨rfl, A.out.g⟩
  obtain ⟨rfl, rfl, rfl⟩ := HX.out rfl rfl
  have z1t := A.out.z1
  have z1was := Awas.out.z1
  have z1is := Ais.out.z1
  go_wp2_with fail
  refine (HF1.out _ A.out.s Awas.out.s Ais.out.s Kbal.out).mono ?_
  rintro e w4 ⟨u3, u4, rfl, hs, ht, g⟩
  replace A := Lib.hid (A.out.keep g)
  replace Awas := Lib.hid (Awas.out.keep g)
  replace Ais := Lib.hid (Ais.out.keep g)
  replace Kbal := Lib.hid (slE_keep g Kbal.out)
  replace U1 := Lib.hid (slE_keep g U1.out)
  replace U2 := Lib.hid (slE_keep g U2.out)
  have U3 := Lib.hid hs
  have U4 := Lib.hid ht
  clear g z1t z1was z1is hs ht z0t
  have z1t := A.out.z1
  go_wp2_with fail
  refine (HP2.out _ _ _ _ A.out.s U1.out U3.out U4.out).mono ?_
  rintro e w5 ⟨u5, rfl, hs, g⟩
  replace A := Lib.hid (A.out.keep g)
  replace Awas := Lib.hid (Awas.out.keep g)
  replace Ais := Lib.hid (Ais.out.keep g)
  replace Kbal := Lib.hid (slE_keep g Kbal.out)
  replace U1 := Lib.hid (slE_keep g U1.out)
  replace U2 := Lib.hid (slE_keep g U2.out)
  replace U3 := Lib.hid (slE_keep g U3.out)
  replace U4 := Lib.hid (slE_keep g U4.out)
  have U5 := Lib.hid hs
  clear g z1t hs
  go_wp2_with fail
  refine (HS.out _ _ _ _ U5.out U2.out K2.out).mono ?_
  rintro e w6 ⟨rfl, g⟩
  replace A := Lib.hid (A.out.keep g)
  replace Awas := Lib.hid (Awas.out.keep g)
  replace Ais := Lib.hid (Ais.out.keep g)
  replace Kbal := Lib.hid (slE_keep g Kbal.out)
  replace U1 := Lib.hid (slE_keep g U1.out)
  replace U2 := Lib.hid (slE_keep g U2.out)
  replace U3 := Lib.hid (slE_keep g U3.out)
  replace U4 := Lib.hid (slE_keep g U4.out)
  replace U5 := Lib.hid (slE_keep g U5.out)
  clear g
  go_wp2_with fail
  go_ret
  exact ⟨rfl, A.out.g⟩
/-- The law. -/
theorem deltaPassL (H : DeltaC) (H' : BesideC) (tt : Tr) (l : List Nd) (twas : SlV) (was : Vt) (tis : SlV) (is : Vt) (vbal : Value) (bal : List UInt64) (w : World) (ht : SlE Ene w (sv tt.n) l) (hwas : SlE Elt w (sv twas) was.l) (his : SlE Elt w (sv tis) is.l) (hbal : SlE Enum w vbal bal) :
    Calls Try.prog 4 #[.agg (tr tt), .agg (vo ⟨twas, was.out⟩), .agg (vo ⟨tis, is.out⟩), vbal] w fun e w' => e = .returned (.bool true) ∧ Below w.heap.size w w' := by
  obtain ⟨⟨pt, nt, ct⟩⟩ := tt
  have lt := sv_lenN ht
  dsimp only at lt
  have lwas := sv_lenT hwas
  obtain ⟨pwas, nwas, cwas⟩ := twas
  dsimp only at lwas
  have lis := sv_lenT his
  obtain ⟨pis, nis, cis⟩ := tis
  dsimp only at lis
  have kbal := hbal
  obtain ⟨pbal, cbal, rfl, _⟩ := slE_shape hbal
  exact deltaPass_n H H' pt _ ct l pwas _ cwas was pis _ cis is pbal _ cbal bal w ht lt hwas lwas his lis kbal rfl
end Go.Proofs.Ytccihllcohnnnaa
