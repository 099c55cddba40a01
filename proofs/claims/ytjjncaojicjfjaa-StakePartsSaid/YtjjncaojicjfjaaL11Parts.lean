/-
  The law StakeParts, walked. (written by wip/gen/law11.py)
-/
import Derived.Test.YtjjncaojicjfjaaW11
namespace Go.Proofs.Ytjjncaojicjfjaa
open Go.RowKit

set_option maxRecDepth 100000 in
set_option maxHeartbeats 8000000 in
theorem stakeParts_n (H : StakeC) (q : Option Addr) (n c : Nat) (l : List UInt64) (a : UInt64) (b : UInt64) (w : World) (h : SlE Enum w (.slice q n c) l) (hl : l.length = n) :
    Calls Try.prog 5 #[.slice q n c, .int .u64 (a.toNat : Int), .int .u64 (b.toNat : Int)] w fun e w' => e = .returned (.bool true) ∧ Below w.heap.size w w' := by
  have A : Hid (Bw w w (.slice q n c) l) := ⟨h, Below.refl _ _⟩
  have HL := Lib.hid hl
  have HAw := Lib.hid (fun W => awake_any11 H W)
  have H := Lib.hid H
  clear h hl
  go_enter Try.func5, Try.ntmps5
  go_wp2_with fail
  refine (HAw.out _).mono ?_
  rintro e w1 ⟨rfl, g⟩
  replace A := Lib.hid (A.out.keep g)
  clear g
  obtain ⟨e1, e2⟩ := lawS_parts (l := l) a b
  have l1 := ofS_lt (bal := l) (mask := a)
  have l2 := ofS_lt (bal := l) (mask := b)
  have l3 := ofS_lt (bal := l) (mask := allM - a)
  have l4 := ofS_lt (bal := l) (mask := a &&& b)
  have l5 := ofS_lt (bal := l) (mask := a ||| b)
  have HA := Lib.hid (fun W (g : SlE Enum W (.slice q n c) l) => H.out.of _ l a W g)
  have HB := Lib.hid (fun W (g : SlE Enum W (.slice q n c) l) => H.out.of _ l b W g)
  have HC := Lib.hid (fun W (g : SlE Enum W (.slice q n c) l) => H.out.of _ l (allM - a) W g)
  rw [m_rest a] at HC
  have HD := Lib.hid (fun W (g : SlE Enum W (.slice q n c) l) => H.out.of _ l (a &&& b) W g)
  have HE := Lib.hid (fun W (g : SlE Enum W (.slice q n c) l) => H.out.of _ l (a ||| b) W g)
  have HT := Lib.hid (fun W (g : SlE Enum W (.slice q n c) l) => H.out.total _ l W g)
  have hand := m_and a b
  have hor := m_or a b
  have ha0 := a.toNat_lt
  generalize ofS l a = o1 at *
  generalize ofS l b = o2 at *
  generalize ofS l (allM - a) = o3 at *
  generalize ofS l (a &&& b) = o4 at *
  generalize ofS l (a ||| b) = o5 at *
  generalize totS l = t at *
  generalize (a &&& b).toNat = ra at *
  generalize (a ||| b).toNat = rb at *
  generalize a.toNat = A1 at *
  have s1 : (o1 : Int) + (o3 : Int) < 18446744073709551616 := by omega
  have s2 : (o4 : Int) + (o5 : Int) < 18446744073709551616 := by omega
  have s3 : (o1 : Int) + (o2 : Int) < 18446744073709551616 := by omega
  have q1 : ((o1 : Int) + (o3 : Int) == (t : Int)) = true := by rw [beq_iff_eq]; omega
  have q2 : ((o4 : Int) + (o5 : Int) == (o1 : Int) + (o2 : Int)) = true := by rw [beq_iff_eq]; omega
  have v1 : (0 : Int) ≤ 18446744073709551615 - (A1 : Int) := by omega
  have v2 : 18446744073709551615 - (A1 : Int) < 18446744073709551616 := by omega
  have Q1 := Lib.hid q1
  have Q2 := Lib.hid q2
  clear e1 e2 l1 l2 l3 l4 l5 ha0 q1 q2
  go_wp2_with fail
  refine (HA.out _ A.out.s).mono ?_
  rintro e w2 ⟨rfl, g⟩
  replace A := Lib.hid (A.out.keep g)
  clear g
  go_wp2_with fail
  refine (HC.out _ A.out.s).mono ?_
  rintro e w3 ⟨rfl, g⟩
  replace A := Lib.hid (A.out.keep g)
  clear g
  have q1 := Q1.out
  go_wp2_with fail
  refine (HT.out _ A.out.s).mono ?_
  rintro e w4 ⟨rfl, g⟩
  replace A := Lib.hid (A.out.keep g)
  clear g
  go_wp2_with fail
  refine (HD.out _ A.out.s).mono ?_
  rintro e w5 ⟨rfl, g⟩
  replace A := Lib.hid (A.out.keep g)
  clear g
  go_wp2_with fail
  refine (HE.out _ A.out.s).mono ?_
  rintro e w6 ⟨rfl, g⟩
  replace A := Lib.hid (A.out.keep g)
  clear g
  go_wp2_with fail
  refine (HA.out _ A.out.s).mono ?_
  rintro e w7 ⟨rfl, g⟩
  replace A := Lib.hid (A.out.keep g)
  clear g
  have q2 := Q2.out
  go_wp2_with fail
  refine (HB.out _ A.out.s).mono ?_
  rintro e w8 ⟨rfl, g⟩
  replace A := Lib.hid (A.out.keep g)
  clear g
  go_wp2_with fail
  go_ret
  exact ⟨rfl, A.out.g⟩
/-- The law. -/
theorem stakePartsL (H : StakeC) (vs : Value) (l : List UInt64) (a : UInt64) (b : UInt64) (w : World) (h : SlE Enum w vs l) :
    Calls Try.prog 5 #[vs, .int .u64 (a.toNat : Int), .int .u64 (b.toNat : Int)] w fun e w' => e = .returned (.bool true) ∧ Below w.heap.size w w' := by
  have k := h
  obtain ⟨q, c, rfl, _⟩ := slE_shape h
  exact stakeParts_n H q _ c l a b w k rfl
end Go.Proofs.Ytjjncaojicjfjaa
