/-
  The law StakeNone, walked. (written by wip/gen/law11.py)
-/
import Derived.Test.YtjjncaojicjfjaaW11
namespace Go.Proofs.Ytjjncaojicjfjaa
open Go.RowKit

set_option maxRecDepth 100000 in
set_option maxHeartbeats 8000000 in
theorem stakeNone_n (H : StakeC) (q : Option Addr) (n c : Nat) (l : List UInt64) (m : UInt64) (w : World) (h : SlE Enum w (.slice q n c) l) (hl : l.length = n) :
    Calls Try.prog 8 #[.slice q n c, .int .u64 (m.toNat : Int)] w fun e w' => e = .returned (.bool true) ∧ Below w.heap.size w w' := by
  have A : Hid (Bw w w (.slice q n c) l) := ⟨h, Below.refl _ _⟩
  have HL := Lib.hid hl
  have HAw := Lib.hid (fun W => awake_any11 H W)
  have H := Lib.hid H
  clear h hl
  go_enter Try.func8, Try.ntmps8
  go_wp2_with fail
  refine (HAw.out _).mono ?_
  rintro e w1 ⟨rfl, g⟩
  replace A := Lib.hid (A.out.keep g)
  clear g
  have HM := Lib.hid (fun W (g : SlE Enum W (.slice q n c) l) => H.out.may _ l W g)
  have HA := Lib.hid (fun W (g : SlE Enum W (.slice q n c) l) => H.out.most _ l m W g)
  have HB := Lib.hid (fun W (g : SlE Enum W (.slice q n c) l) => H.out.some _ l m W g)
  by_cases hm : mayB l = true
  case neg =>
    have hm' : mayB l = false := by simpa using hm
    rw [hm'] at HM
    rw [(lawS_not hm' m).1] at HA
    rw [(lawS_not hm' m).2] at HB
    clear hm hm'
    go_wp2_with fail
    refine (HM.out _ A.out.s).mono ?_
    rintro e w2 ⟨rfl, g⟩
    replace A := Lib.hid (A.out.keep g)
    clear g
    go_wp2_with fail
    refine (HA.out _ A.out.s).mono ?_
    rintro e w3 ⟨rfl, g⟩
    replace A := Lib.hid (A.out.keep g)
    clear g
    go_wp2_with fail
    refine (HB.out _ A.out.s).mono ?_
    rintro e w4 ⟨rfl, g⟩
    replace A := Lib.hid (A.out.keep g)
    clear g
    go_wp2_with fail
    go_ret
    exact ⟨rfl, A.out.g⟩
  rw [hm] at HM
  obtain ⟨e1, e2, e3, e4⟩ := lawS_none hm m
  have HT := Lib.hid (fun W (g : SlE Enum W (.slice q n c) l) => H.out.total _ l W g)
  have HC := Lib.hid (fun W (g : SlE Enum W (.slice q n c) l) => H.out.most _ l 0 W g)
  rw [e1] at HC
  have HD := Lib.hid (fun W (g : SlE Enum W (.slice q n c) l) => H.out.some _ l 0 W g)
  rw [e2] at HD
  have HE := Lib.hid (fun W (g : SlE Enum W (.slice q n c) l) => H.out.most _ l allM W g)
  rw [e3] at HE
  have HF := Lib.hid (fun W (g : SlE Enum W (.slice q n c) l) => H.out.most _ l (allM - m) W g)
  rw [m_rest m] at HF
  rw [show ((allM.toNat : Nat) : Int) = 18446744073709551615 from rfl] at HE
  rw [show (((0 : UInt64).toNat : Nat) : Int) = 0 from rfl] at HC HD
  have ha0 := m.toNat_lt
  have HX := Lib.hid e4
  generalize totS l = t at *
  generalize someS l m = y1 at *
  generalize mostS l (allM - m) = y2 at *
  generalize m.toNat = A1 at *
  obtain ⟨z, hz⟩ : ∃ z, z = decide (t = 0) := ⟨_, rfl⟩
  rw [← hz] at HC HD
  have d0 : ((t : Int) == 0) = z := by rw [hz, Bool.eq_iff_iff, beq_iff_eq, decide_eq_true_iff]; omega
  have d1 : (t == 0) = z := by rw [hz, Bool.eq_iff_iff, beq_iff_eq, decide_eq_true_iff]
  have d2 : decide (t = 0) = z := hz.symm
  have v1 : (0 : Int) ≤ 18446744073709551615 - (A1 : Int) := by omega
  have v2 : 18446744073709551615 - (A1 : Int) < 18446744073709551616 := by omega
  clear hm e1 e2 e3 e4 ha0 hz
  go_wp2_with fail
  refine (HM.out _ A.out.s).mono ?_
  rintro e w2 ⟨rfl, g⟩
  replace A := Lib.hid (A.out.keep g)
  clear g
  go_wp2_with fail
  refine (HT.out _ A.out.s).mono ?_
  rintro e w3 ⟨rfl, g⟩
  replace A := Lib.hid (A.out.keep g)
  clear g
  go_wp2_with fail
  refine (HC.out _ A.out.s).mono ?_
  rintro e w4 ⟨rfl, g⟩
  replace A := Lib.hid (A.out.keep g)
  clear g
  have Z : Hid (True) := trivial
  cases z
  · skip
    go_wp2_with fail
    refine (HD.out _ A.out.s).mono ?_
    rintro e w5 ⟨rfl, g⟩
    replace A := Lib.hid (A.out.keep g)
    clear g
    go_wp2_with fail
    refine (HE.out _ A.out.s).mono ?_
    rintro e w6 ⟨rfl, g⟩
    replace A := Lib.hid (A.out.keep g)
    clear g
    go_wp2_with fail
    refine (HB.out _ A.out.s).mono ?_
    rintro e w7 ⟨rfl, g⟩
    replace A := Lib.hid (A.out.keep g)
    clear g
    cases y1
    · obtain rfl : y2 = true := by rcases HX.out with e | e; (· cases e); (· exact e)
      go_wp2_with fail
      refine (HF.out _ A.out.s).mono ?_
      rintro e w8 ⟨rfl, g⟩
      replace A := Lib.hid (A.out.keep g)
      clear g
      go_wp2_with fail
      go_ret
      exact ⟨rfl, A.out.g⟩
    · skip
      go_wp2_with fail
      go_ret
      exact ⟨rfl, A.out.g⟩
  · skip
    go_wp2_with fail
    refine (HD.out _ A.out.s).mono ?_
    rintro e w5 ⟨rfl, g⟩
    replace A := Lib.hid (A.out.keep g)
    clear g
    go_wp2_with fail
    refine (HE.out _ A.out.s).mono ?_
    rintro e w6 ⟨rfl, g⟩
    replace A := Lib.hid (A.out.keep g)
    clear g
    go_wp2_with fail
    refine (HB.out _ A.out.s).mono ?_
    rintro e w7 ⟨rfl, g⟩
    replace A := Lib.hid (A.out.keep g)
    clear g
    cases y1
    · obtain rfl : y2 = true := by rcases HX.out with e | e; (· cases e); (· exact e)
      go_wp2_with fail
      refine (HF.out _ A.out.s).mono ?_
      rintro e w8 ⟨rfl, g⟩
      replace A := Lib.hid (A.out.keep g)
      clear g
      go_wp2_with fail
      go_ret
      exact ⟨rfl, A.out.g⟩
    · skip
      go_wp2_with fail
      go_ret
      exact ⟨rfl, A.out.g⟩
/-- The law. -/
theorem stakeNoneL (H : StakeC) (vs : Value) (l : List UInt64) (m : UInt64) (w : World) (h : SlE Enum w vs l) :
    Calls Try.prog 8 #[vs, .int .u64 (m.toNat : Int)] w fun e w' => e = .returned (.bool true) ∧ Below w.heap.size w w' := by
  have k := h
  obtain ⟨q, c, rfl, _⟩ := slE_shape h
  exact stakeNone_n H q _ c l m w k rfl
end Go.Proofs.Ytjjncaojicjfjaa
