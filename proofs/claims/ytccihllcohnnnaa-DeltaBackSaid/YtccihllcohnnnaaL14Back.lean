/-
  The law DeltaBack, walked. (written by wip/gen/law14.py)
-/
import Derived.Test.YtccihllcohnnnaaQ27
import Derived.Test.YtccihllcohnnnaaQ28
namespace Go.Proofs.Ytccihllcohnnnaa
open Go.RowKit
set_option maxRecDepth 100000

set_option maxRecDepth 100000 in
set_option maxHeartbeats 8000000 in
theorem deltaBack_n (H : DeltaC) (H' : BesideC) (pt : Option Addr) (nt ct : Nat) (l : List Nd) (pwas : Option Addr) (nwas cwas : Nat) (was : Vt) (pis : Option Addr) (nis cis : Nat) (is : Vt) (pbal : Option Addr) (nbal cbal : Nat) (bal : List UInt64) (w : World) (ht : SlE Ene w (.slice pt nt ct) l) (lt : l.length = nt) (hwas : SlE Elt w (.slice pwas nwas cwas) was.l) (lwas : was.l.length = nwas) (his : SlE Elt w (.slice pis nis cis) is.l) (lis : is.l.length = nis) (hbal : SlE Enum w (.slice pbal nbal cbal) bal) (lbal : bal.length = nbal) :
    Calls Try.prog 7 #[.agg (tr ⟨⟨pt, nt, ct⟩⟩), .agg (vo ⟨⟨pwas, nwas, cwas⟩, was.out⟩), .agg (vo ⟨⟨pis, nis, cis⟩, is.out⟩), .slice pbal nbal cbal] w fun e w' => e = .returned (.bool true) ∧ Below w.heap.size w w' := by
  obtain ⟨W0, hW0⟩ : ∃ W0, W0 = (((w.alloc (.cells (tr ⟨⟨pt, nt, ct⟩⟩) 24)).alloc (.cells (vo ⟨⟨pwas, nwas, cwas⟩, was.out⟩) 28)).alloc (.cells (vo ⟨⟨pis, nis, cis⟩, is.out⟩) 28)) := ⟨_, rfl⟩
  obtain ⟨hB, b0, b1, b2, _⟩ := heap3 w _ _ _ _ _ _ W0 hW0
  have A : Hid (Tw w W0 (w.heap.size) ⟨pt, nt, ct⟩ l) := ⟨b0, slE_keep hB ht, hB⟩
  have Awas : Hid (Vw w W0 (w.heap.size + 1) ⟨pwas, nwas, cwas⟩ was) := ⟨b1, slE_keep hB hwas, hB⟩
  have Ais : Hid (Vw w W0 (w.heap.size + 2) ⟨pis, nis, cis⟩ is) := ⟨b2, slE_keep hB his, hB⟩
  have Lt := Lib.hid lt
  have Lwas := Lib.hid lwas
  have Lis := Lib.hid lis
  have Lbal := Lib.hid lbal
  have Kbal := Lib.hid (slE_keep hB hbal)
  have HW := Lib.hid hW0
  have HAw := Lib.hid (fun W => awake_any14 H H' W)
  have HH := Lib.hid H
  have HJ := Lib.hid H'
  clear H H' hW0 hB b0 b1 b2 ht lt hwas lwas his lis hbal lbal
  go_enter Try.func7, Try.ntmps7
  go_wp2_with fail
  rw [← HW.out]
  refine (HAw.out _).mono ?_
  rintro e w1 ⟨rfl, g⟩
  replace A := Lib.hid (A.out.keep g)
  replace Awas := Lib.hid (Awas.out.keep g)
  replace Ais := Lib.hid (Ais.out.keep g)
  replace Kbal := Lib.hid (slE_keep g Kbal.out)
  clear g
  have z0t := A.out.z0
  rw [sv_mk] at z0t
  have z0was := Awas.out.z0
  rw [sv_mk] at z0was
  have z0is := Ais.out.z0
  rw [sv_mk] at z0is
  by_cases h1 : 20 < nt
  · have h1i : decide ((20 : Int) < (nt : Int)) = true := decide_eq_true (by omega)
    have h1i' : decide (20 < nt) = true := decide_eq_true (by omega)
    clear h1
    go_wp2_with fail
    go_ret
    exact ⟨rfl, A.out.g⟩
  have h1i : decide ((20 : Int) < (nt : Int)) = false := decide_eq_false (by omega)
  have h1i' : decide (20 < nt) = false := decide_eq_false (by omega)
  by_cases h2 : 20 < nwas
  · have h2i : decide ((20 : Int) < (nwas : Int)) = true := decide_eq_true (by omega)
    have h2i' : decide (20 < nwas) = true := decide_eq_true (by omega)
    clear h2
    go_wp2_with fail
    go_ret
    exact ⟨rfl, A.out.g⟩
  have h2i : decide ((20 : Int) < (nwas : Int)) = false := decide_eq_false (by omega)
  have h2i' : decide (20 < nwas) = false := decide_eq_false (by omega)
  by_cases h3 : 20 < nis
  · have h3i : decide ((20 : Int) < (nis : Int)) = true := decide_eq_true (by omega)
    have h3i' : decide (20 < nis) = true := decide_eq_true (by omega)
    clear h3
    go_wp2_with fail
    go_ret
    exact ⟨rfl, A.out.g⟩
  have h3i : decide ((20 : Int) < (nis : Int)) = false := decide_eq_false (by omega)
  have h3i' : decide (20 < nis) = false := decide_eq_false (by omega)
  have HS : Hid (∀ (u v : Value) (a : List UInt64) (W : World), SlE Enum W u a → SlE Enum W v a → a.length ≤ 20 → Calls Try.prog 16 #[u, v] W fun e w' => e = .returned (.bool true) ∧ Below W.heap.size W w') := fun u v a W h h' hl => by
    have := ref08Same u v a a W h h' (by omega)
    rwa [decide_eq_true rfl] at this
  have HF1 := Lib.hid (fun W (h : SlE Ene W (.slice pt nt ct) l) (h1 : SlE Elt W (.slice pwas nwas cwas) was.l) (h2 : SlE Elt W (.slice pis nis cis) is.l) (h3 : SlE Enum W (.slice pbal nbal cbal) bal) => HH.out.of ⟨pt, nt, ct⟩ ⟨pwas, nwas, cwas⟩ ⟨pis, nis, cis⟩ _ l was is bal W h h1 h2 h3)
  have HF2 := Lib.hid (fun W (h : SlE Ene W (.slice pt nt ct) l) (h1 : SlE Elt W (.slice pis nis cis) is.l) (h2 : SlE Elt W (.slice pwas nwas cwas) was.l) (h3 : SlE Enum W (.slice pbal nbal cbal) bal) => HH.out.of ⟨pt, nt, ct⟩ ⟨pis, nis, cis⟩ ⟨pwas, nwas, cwas⟩ _ l is was bal W h h1 h2 h3)
  rw [← (law_dback (l := l) (was := was) (is := is) (bal := bal)).1, ← (law_dback (l := l) (was := was) (is := is) (bal := bal)).2, of_comm (was := is)] at HF2
  have k3 : Hid ((plusL l was is bal).length ≤ 20) := plus_le20 (by have := Lt.out; omega)
  have k4 : Hid ((minusL l was is bal).length ≤ 20) := minus_le20 (by have := Lt.out; omega)
  generalize plusL l was is bal = P at *
  generalize minusL l was is bal = N at *
  generalize ofB l was is bal = fp at *
  clear h1 h2 h3
  have z1t := A.out.z1
  have z1was := Awas.out.z1
  have z1is := Ais.out.z1
  go_wp2_with fail
  refine (HF1.out _ A.out.s Awas.out.s Ais.out.s Kbal.out).mono ?_
  rintro e w2 ⟨u1, u2, rfl, hs, ht, g⟩
  replace A := Lib.hid (A.out.keep g)
  replace Awas := Lib.hid (Awas.out.keep g)
  replace Ais := Lib.hid (Ais.out.keep g)
  replace Kbal := Lib.hid (slE_keep g Kbal.out)
  have U1 := Lib.hid hs
  have U2 := Lib.hid ht
  clear g z1t z1was z1is hs ht z0t z0was z0is
  have z1t := A.out.z1
  have z1was := Awas.out.z1
  have z1is := Ais.out.z1
  go_wp2_with fail
  refine (HF2.out _ A.out.s Ais.out.s Awas.out.s Kbal.out).mono ?_
  rintro e w3 ⟨u3, u4, rfl, hs, ht, g⟩
  replace A := Lib.hid (A.out.keep g)
  replace Awas := Lib.hid (Awas.out.keep g)
  replace Ais := Lib.hid (Ais.out.keep g)
  replace Kbal := Lib.hid (slE_keep g Kbal.out)
  replace U1 := Lib.hid (slE_keep g U1.out)
  replace U2 := Lib.hid (slE_keep g U2.out)
  have U3 := Lib.hid hs
  have U4 := Lib.hid ht
  clear g z1t z1was z1is hs ht
  go_wp2_with fail
  refine (HS.out _ _ _ _ U1.out U4.out k3.out).mono ?_
  rintro e w4 ⟨rfl, g⟩
  replace A := Lib.hid (A.out.keep g)
  replace Awas := Lib.hid (Awas.out.keep g)
  replace Ais := Lib.hid (Ais.out.keep g)
  replace Kbal := Lib.hid (slE_keep g Kbal.out)
  replace U1 := Lib.hid (slE_keep g U1.out)
  replace U2 := Lib.hid (slE_keep g U2.out)
  replace U3 := Lib.hid (slE_keep g U3.out)
  replace U4 := Lib.hid (slE_keep g U4.out)
  clear g
  go_wp2_with fail
  refine (HS.out _ _ _ _ U2.out U3.out k4.out).mono ?_
  rintro e w5 ⟨rfl, g⟩
  replace A := Lib.hid (A.out.keep g)
  replace Awas := Lib.hid (Awas.out.keep g)
  replace Ais := Lib.hid (Ais.out.keep g)
  replace Kbal := Lib.hid (slE_keep g Kbal.out)
  replace U1 := Lib.hid (slE_keep g U1.out)
  replace U2 := Lib.hid (slE_keep g U2.out)
  replace U3 := Lib.hid (slE_keep g U3.out)
  replace U4 := Lib.hid (slE_keep g U4.out)
  clear g
  go_wp2_with fail
  go_ret
  exact ⟨rfl, A.out.g⟩
/-- The law. -/
theorem deltaBackL (H : DeltaC) (H' : BesideC) (tt : Tr) (l : List Nd) (twas : SlV) (was : Vt) (tis : SlV) (is : Vt) (vbal : Value) (bal : List UInt64) (w : World) (ht : SlE Ene w (sv tt.n) l) (hwas : SlE Elt w (sv twas) was.l) (his : SlE Elt w (sv tis) is.l) (hbal : SlE Enum w vbal bal) :
    Calls Try.prog 7 #[.agg (tr tt), .agg (vo ⟨twas, was.out⟩), .agg (vo ⟨tis, is.out⟩), vbal] w fun e w' => e = .returned (.bool true) ∧ Below w.heap.size w w' := by
  obtain ⟨⟨pt, nt, ct⟩⟩ := tt
  have lt := sv_lenN ht
  dsimp only at lt
  have lwas := sv_lenT hwas
  obtain ⟨pwas, nwas, cwas⟩ := twas
  dsimp only at lwas
  have lis := sv_lenT his
  obtain ⟨pis, nis, cis⟩ := tis
  dsimp only at lis
  have kbal := hbal
  obtain ⟨pbal, cbal, rfl, _⟩ := slE_shape hbal
  exact deltaBack_n H H' pt _ ct l pwas _ cwas was pis _ cis is pbal _ cbal bal w ht lt hwas lwas his lis kbal rfl
end Go.Proofs.Ytccihllcohnnnaa
