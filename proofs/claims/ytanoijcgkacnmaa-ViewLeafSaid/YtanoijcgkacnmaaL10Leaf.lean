/-
  The law ViewLeaf, walked. (written by wip/gen/law10.py)
-/
import Derived.Test.YtanoijcgkacnmaaW10
import Derived.Test.YtanoijcgkacnmaaP06May
import Derived.Test.YtanoijcgkacnmaaGQ
namespace Go.Proofs.Ytanoijcgkacnmaa
open Go.RowKit

set_option maxRecDepth 100000 in
set_option maxHeartbeats 8000000 in
theorem viewLeaf_n (HLs : LeadsC) (HLf : LeafC) (HFr : FromC) (p : Option Addr) (n cp : Nat) (l : List Nd) (j : Nat) (f : Int) (i : Int) (w : World) (h : SlE Ene w (.slice p n cp) l) (hl : l.length = n) (bj : j < 18446744073709551616) :
    Calls Try.prog 8 #[.agg (tr ⟨⟨p, n, cp⟩⟩), .int .u64 (j : Int), .int .i64 f, .int .i64 i] w fun e w' => e = .returned (.bool true) ∧ Below w.heap.size w w' := by
  obtain ⟨W0, hW0⟩ : ∃ W0, W0 = w.alloc (.cells (tr ⟨⟨p, n, cp⟩⟩) 24) := ⟨_, rfl⟩
  have A : Hid (Tw w W0 w.heap.size ⟨p, n, cp⟩ l) := by rw [hW0]; exact tw_one h
  have HW := Lib.hid hW0
  have HL := Lib.hid hl
  have HAw := Lib.hid (fun W => awake_any10 HLs HLf HFr W)
  have HLs := Lib.hid HLs
  have HLf := Lib.hid HLf
  have HFr := Lib.hid HFr
  have Bj := Lib.hid bj
  clear bj
  clear hW0 h hl
  have HMay := Lib.hid (fun W (g : SlE Ene W (.slice p n cp) l) => treeMay ⟨p, n, cp⟩ l W g)
  go_enter Try.func8, Try.ntmps8
  go_wp2_with fail
  rw [← HW.out]
  refine (HAw.out _).mono ?_
  rintro e w1 ⟨rfl, g⟩
  replace A := Lib.hid (A.out.keep g)
  clear g
  have z1 := A.out.z1
  have z0 := A.out.z0
  rw [sv_mk] at z0
  go_wp2_with fail
  refine (HMay.out _ A.out.s).mono ?_
  rintro e w2 ⟨rfl, g⟩
  replace A := Lib.hid (A.out.keep g)
  clear g
  replace z1 := A.out.z1
  replace z0 := A.out.z0
  rw [sv_mk] at z0
  clear HMay
  by_cases hm : MayT l
  case neg =>
    rw [decide_eq_false hm]
    clear hm
    go_wp2_with fail
    go_ret
    exact ⟨rfl, A.out.g⟩
  rw [decide_eq_true hm]
  have HN : Hid (n ≤ 12) := by show n ≤ 12; have := hm.le; have := HL.out; omega
  have HM := Lib.hid hm
  clear hm
  by_cases hi0 : i < 0
  · have hi0i : decide (i < 0) = true := decide_eq_true (hi0)
    clear hi0
    go_wp2_with fail
    go_ret
    exact ⟨rfl, A.out.g⟩
  have hi0i : decide (i < 0) = false := decide_eq_false (hi0)
  by_cases hi1 : (n : Int) ≤ i
  · have hi1i : decide ((n : Int) ≤ i) = true := decide_eq_true (hi1)
    clear hi1
    go_wp2_with fail
    go_ret
    exact ⟨rfl, A.out.g⟩
  have hi1i : decide ((n : Int) ≤ i) = false := decide_eq_false (hi1)
  obtain ⟨i, rfl⟩ : ∃ i' : Nat, i = i' := ⟨i.toNat, by omega⟩
  have hil : i < l.length := by have := HL.out; omega
  have i0 : (0 : Int) ≤ (i : Int) := by omega
  have i1 : (i : Int) < (n : Int) := by have := HL.out; omega
  have hi1n : decide (n ≤ i) = false := decide_eq_false (by omega)
  have HA := Lib.hid (fun W (g : SlE Ene W (.slice p n cp) l) => HLs.out ⟨p, n, cp⟩ l j f W Bj.out g)
  rw [leads_yes HM.out] at HA
  have HC := Lib.hid (fun W (g : SlE Ene W (.slice p n cp) l) => HLf.out ⟨p, n, cp⟩ l j f (i : Int) W Bj.out (by have := HM.out.le; omega) g)
  have HK := Lib.hid (fun W (g : SlE Ene W (.slice p n cp) l) => (treeKids ⟨p, n, cp⟩ l (i : Int) W g).mono fun _ _ h => h.list)
  rw [show kidsI l (i : Int) = (kidsT l i).map (fun k : Nat => (k : Int)) from by unfold kidsI; rw [kidsZ_nat HM.out hil]] at HK
  have HB := Lib.hid (fun W (g : SlE Ene W (.slice p n cp) l) => treeAbove ⟨p, n, cp⟩ l f (i : Int) W g)
  have hlaw := law_leaf HM.out (just := j) (fin := f) hil
  have hne : kidsT l i ≠ [] → leafT l j f (i : Int) = false := fun e => by
    rw [← Bool.not_eq_true]; intro e2; exact e ((leaf_iff HM.out hil).1 e2).2.1
  obtain ⟨m, hm⟩ : ∃ m, m = (kidsT l i).length := ⟨_, rfl⟩
  have hm0 : m = 0 → kidsT l i = [] := fun e => List.length_eq_zero_iff.1 (by omega)
  have hm1 : m ≠ 0 → kidsT l i ≠ [] := fun e e2 => e (by rw [hm, e2]; rfl)
  have HKm : Hid (((kidsT l i).map (fun k : Nat => (k : Int))).length = m) := by show _ = _; rw [List.length_map, hm]
  have hat := boosT_at (p := leadB l j f) hil
  obtain ⟨lf, hlf⟩ : ∃ lf, lf = leafT l j f (i : Int) := ⟨_, rfl⟩
  obtain ⟨ab, hab⟩ : ∃ ab, ab = aboveZ l f (i : Int) := ⟨_, rfl⟩
  obtain ⟨J, hJ⟩ : ∃ J, J = (nd l i).just.toNat := ⟨_, rfl⟩
  rw [← hlf] at HC hne
  rw [← hab] at HB
  have HNe : Hid (m ≠ 0 → lf = false) := fun e => hne (hm1 e)
  have HEq : Hid (m = 0 → lf = bn (boosT (leadB l j f) l.length) i ∧ lf = (ab && decide (j ≤ J))) := fun e => by
    obtain ⟨e1, e2⟩ := hlaw (hm0 e)
    rw [← hlf] at e1 e2
    refine ⟨by rw [hat]; exact e1, ?_⟩
    rw [Bool.eq_iff_iff, e2, Bool.and_eq_true, decide_eq_true_iff, hab, hJ]
  have HJ := Lib.hid hJ
  have Hil := Lib.hid hil
  generalize (kidsT l i).map (fun k : Nat => (k : Int)) = K at *
  have hnn : ((n : Int) != (n : Int)) = false := by simp
  clear hi0 hi1 hil hlaw hne hm hm0 hm1 hat hlf hab hJ
  go_wp2_with fail
  refine (HA.out _ A.out.s).mono ?_
  rintro e w3 ⟨va, rfl, hv, g⟩
  replace A := Lib.hid (A.out.keep g)
  obtain ⟨pV, cV, rfl⟩ := slE_len hv (n := n) (by rw [boosT_len, HL.out])
  have V := Lib.hid hv
  clear hv
  clear g
  replace z1 := A.out.z1
  replace z0 := A.out.z0
  rw [sv_mk] at z0
  go_wp2_with fail
  refine (HC.out _ A.out.s).mono ?_
  rintro e w4 ⟨rfl, g⟩
  replace A := Lib.hid (A.out.keep g)
  replace V := Lib.hid (slE_keep g V.out)
  clear g
  replace z1 := A.out.z1
  replace z0 := A.out.z0
  rw [sv_mk] at z0
  go_wp2_with fail
  refine (HK.out _ A.out.s).mono ?_
  rintro e w5 ⟨vk, rfl, hk, g⟩
  replace A := Lib.hid (A.out.keep g)
  replace V := Lib.hid (slE_keep g V.out)
  obtain ⟨pk, ck, rfl⟩ := slE_len hk HKm.out
  clear hk
  clear g
  replace z1 := A.out.z1
  replace z0 := A.out.z0
  rw [sv_mk] at z0
  by_cases hm : m = 0
  case neg =>
    have t2 : decide ((0 : Int) < (m : Int)) = true := decide_eq_true (by omega)
    have t2' : decide (0 < m) = true := decide_eq_true (by omega)
    obtain rfl : lf = false := HNe.out hm
    clear hm
    go_wp2_with fail
    go_ret
    exact ⟨rfl, A.out.g⟩
  obtain ⟨hb, he⟩ := HEq.out hm
  subst hm
  have t2 : decide ((0 : Int) < ((0 : Nat) : Int)) = false := by decide
  obtain ⟨bV, oV, rfl, _, xV⟩ := boos_ptr V.out (by rw [boosT_len]; have := HM.out.pos; omega)
  obtain ⟨b1, o1, rfl, _, x1⟩ := slE_ptr A.out.s (by have := HM.out.pos; omega)
  replace z0 := A.out.z0
  rw [sv_mk] at z0
  have yb := boos_cell xV (i := i) (by rw [boosT_len]; exact Hil.out)
  rw [← hb] at yb
  have yj := nds_just x1 (i := i) Hil.out
  rw [← HJ.out] at yj
  clear hb xV x1
  cases ab
  · obtain rfl : lf = false := by rw [he]; rfl
    clear he
    go_wp2_with fail
    refine (HB.out _ A.out.s).mono ?_
    rintro e w9 ⟨rfl, g⟩
    replace A := Lib.hid (A.out.keep g)
    replace yj := (g.cell (p := ⟨b1, o1 + i * 35 + 34, none⟩) (block_lt_of_cell yj)).trans yj
    clear g
    replace z0 := A.out.z0
    rw [sv_mk] at z0
    go_wp2_with fail
    go_ret
    exact ⟨rfl, A.out.g⟩
  · by_cases hJ : j ≤ J
    · obtain rfl : lf = true := by rw [he, decide_eq_true hJ]; rfl
      have d0 : decide ((j : Int) ≤ (J : Int)) = true := decide_eq_true (by omega)
      have d0' : decide (j ≤ J) = true := decide_eq_true hJ
      clear he hJ
      go_wp2_with fail
      refine (HB.out _ A.out.s).mono ?_
      rintro e w9 ⟨rfl, g⟩
      replace A := Lib.hid (A.out.keep g)
      replace yj := (g.cell (p := ⟨b1, o1 + i * 35 + 34, none⟩) (block_lt_of_cell yj)).trans yj
      clear g
      replace z0 := A.out.z0
      rw [sv_mk] at z0
      go_wp2_with fail
      go_ret
      exact ⟨rfl, A.out.g⟩
    · obtain rfl : lf = false := by rw [he, decide_eq_false hJ]; rfl
      have d0 : decide ((j : Int) ≤ (J : Int)) = false := decide_eq_false (by omega)
      have d0' : decide (j ≤ J) = false := decide_eq_false hJ
      clear he hJ
      go_wp2_with fail
      refine (HB.out _ A.out.s).mono ?_
      rintro e w9 ⟨rfl, g⟩
      replace A := Lib.hid (A.out.keep g)
      replace yj := (g.cell (p := ⟨b1, o1 + i * 35 + 34, none⟩) (block_lt_of_cell yj)).trans yj
      clear g
      replace z0 := A.out.z0
      rw [sv_mk] at z0
      go_wp2_with fail
      go_ret
      exact ⟨rfl, A.out.g⟩
/-- The law. -/
theorem viewLeafL (HLs : LeadsC) (HLf : LeafC) (HFr : FromC) (s : Tr) (l : List Nd) (j : UInt64) (f : Int) (i : Int) (w : World) (h : SlE Ene w (sv s.n) l) :
    Calls Try.prog 8 #[.agg (tr s), .int .u64 (j.toNat : Int), .int .i64 f, .int .i64 i] w fun e w' => e = .returned (.bool true) ∧ Below w.heap.size w w' := by
  obtain ⟨s⟩ := s
  have hn := sv_lenN h
  obtain ⟨p, n, cp⟩ := s
  exact viewLeaf_n HLs HLf HFr p n cp l j.toNat f i w h hn j.toNat_lt
end Go.Proofs.Ytanoijcgkacnmaa
