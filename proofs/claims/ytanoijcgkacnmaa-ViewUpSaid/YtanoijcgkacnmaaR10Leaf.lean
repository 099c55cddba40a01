/-
  The document's views: Leaf, walked.
-/
import Derived.Test.YtanoijcgkacnmaaViewQ
import Derived.Test.YtanoijcgkacnmaaR06Above
import Derived.Test.YtanoijcgkacnmaaR06Kids
namespace Go.Proofs.Ytanoijcgkacnmaa
open Go.RowKit

set_option maxRecDepth 100000 in
set_option maxHeartbeats 4000000 in
theorem ref10Leaf_n (p : Option Addr) (n cp : Nat) (l : List Nd) (just : Nat) (fin i : Int) (w : World) (h : SlE Ene w (.slice p n cp) l) (hl : l.length = n) (hn : l.length ≤ 1000) :
    Calls Try.prog 13 #[.agg (tr ⟨⟨p, n, cp⟩⟩), .int .u64 (just : Int), .int .i64 fin, .int .i64 i] w fun e w' => e = .returned (.bool (leafT l just fin i)) ∧ Below w.heap.size w w' := by
  have V : Hid (Tw w (w.alloc (.cells (tr ⟨⟨p, n, cp⟩⟩) 24)) w.heap.size ⟨p, n, cp⟩ l) := tw_one h
  obtain ⟨W0, hW0⟩ : ∃ W0, W0 = w.alloc (.cells (tr ⟨⟨p, n, cp⟩⟩) 24) := ⟨_, rfl⟩
  rw [← hW0] at V
  have A := V
  have HW := Lib.hid hW0
  have HL := Lib.hid hl
  have HAb := Lib.hid (fun W (g : SlE Ene W (.slice p n cp) l) => refAbove ⟨p, n, cp⟩ l fin i W g hn)
  have HKs := Lib.hid (fun W (g : SlE Ene W (.slice p n cp) l) => (refKids ⟨p, n, cp⟩ l i W g hn).mono fun _ _ h => h.list)
  by_cases ha : aboveZ l fin i = true
  case neg =>
    have ha' : aboveZ l fin i = false := by simpa using ha
    rw [leaf_not ha']
    rw [ha'] at HAb
    clear V hW0 h hl hn ha ha'
    go_enter Try.func13, Try.ntmps13
    go_wp2_with fail
    rw [← HW.out]
    refine (HAb.out _ A.out.s).mono ?_
    rintro e w1 ⟨rfl, g⟩
    replace A := Lib.hid (A.out.keep g)
    clear g
    go_wp2_with fail
    go_ret
    exact ⟨rfl, A.out.g⟩
  obtain ⟨hm, _, _, h0, h1, _⟩ := aboveZ_is ha
  obtain ⟨i, rfl⟩ : ∃ i' : Nat, i = i' := ⟨i.toNat, by omega⟩
  have hi : i < l.length := by omega
  rw [leaf_nat hm hi ha]
  rw [ha] at HAb
  rw [show kidsI l (i : Int) = (kidsT l i).map (fun k : Nat => (k : Int)) from by unfold kidsI; rw [kidsZ_nat hm hi]] at HKs
  obtain ⟨m, hmm⟩ : ∃ m, m = (kidsT l i).length := ⟨_, rfl⟩
  obtain ⟨b1, o1, rfl, r1', x1⟩ := slE_ptr A.out.s (by omega)
  have yj := nds_just x1 hi
  have HKm : Hid (((kidsT l i).map (fun k : Nat => (k : Int))).length = m) := by show _ = _; rw [List.length_map, hmm]
  have hdk : decide (kidsT l i = []) = decide (m = 0) := by
    rw [hmm, Bool.eq_iff_iff, decide_eq_true_iff, decide_eq_true_iff]
    exact List.length_eq_zero_iff.symm
  rw [hdk]
  obtain ⟨r, hr⟩ : ∃ r, r = (decide (m = 0) && decide (just ≤ (nd l i).just.toNat)) := ⟨_, rfl⟩
  rw [← hr]
  generalize (kidsT l i).map (fun k : Nat => (k : Int)) = K at *
  generalize (nd l i).just.toNat = J at *
  have i0 : (0 : Int) ≤ (i : Int) := by omega
  have i1 : (i : Int) < (n : Int) := by omega
  have YJ := Lib.hid yj
  have HR := Lib.hid hr
  clear V hW0 h hl hn ha hm h0 h1 hi hmm hdk r1' x1 yj hr
  go_enter Try.func13, Try.ntmps13
  go_wp2_with fail
  rw [← HW.out]
  have yj := YJ.out
  refine (HAb.out _ A.out.s).mono ?_
  rintro e w1 ⟨rfl, g⟩
  replace A := Lib.hid (A.out.keep g)
  replace yj := (g.cell (p := ⟨b1, o1 + i * 35 + 34, none⟩) (block_lt_of_cell yj)).trans yj
  clear g
  have z1 := A.out.z1
  go_wp2_with fail
  refine (HKs.out _ A.out.s).mono ?_
  rintro e w2 ⟨v, rfl, hv, g⟩
  obtain ⟨pv, cv, rfl⟩ := slE_len hv HKm.out
  replace A := Lib.hid (A.out.keep g)
  replace yj := (g.cell (p := ⟨b1, o1 + i * 35 + 34, none⟩) (block_lt_of_cell yj)).trans yj
  clear g hv z1
  have z1 := A.out.z1
  have z0 := A.out.z0
  rw [sv_mk] at z0
  by_cases hm0 : m = 0
  · subst hm0
    by_cases hJ : just ≤ J
    · have d0 : decide ((just : Int) ≤ (J : Int)) = true := decide_eq_true (by omega)
      have d1 : decide (just ≤ J) = true := decide_eq_true hJ
      have hR : Hid (r = decide (just ≤ J)) := by show _ = _; rw [HR.out]; rfl
      rw [d1] at hR
      clear hJ
      go_wp2_with fail
      go_ret
      exact ⟨by rw [hR.out]; first | done | rfl, A.out.g⟩
    · have d0 : decide ((just : Int) ≤ (J : Int)) = false := decide_eq_false (by omega)
      have d1 : decide (just ≤ J) = false := decide_eq_false hJ
      have hR : Hid (r = decide (just ≤ J)) := by show _ = _; rw [HR.out]; rfl
      rw [d1] at hR
      clear hJ
      go_wp2_with fail
      go_ret
      exact ⟨by rw [hR.out]; first | done | rfl, A.out.g⟩
  · have d0 : ((m : Int) == 0) = false := by rw [beq_eq_false_iff_ne]; omega
    have hR : Hid (r = false) := by show _ = _; rw [HR.out, decide_eq_false hm0]; rfl
    clear hm0
    go_wp2_with fail
    go_ret
    exact ⟨by rw [hR.out]; first | done | rfl, A.out.g⟩
/-- Leaf. -/
theorem ref10Leaf (s : SlV) (l : List Nd) (just : Nat) (fin i : Int) (w : World) (h : SlE Ene w (sv s) l) (hn : l.length ≤ 1000) :
    Calls Try.prog 13 #[.agg (tr ⟨s⟩), .int .u64 (just : Int), .int .i64 fin, .int .i64 i] w fun e w' => e = .returned (.bool (leafT l just fin i)) ∧ Below w.heap.size w w' := by
  have hl := sv_lenN h
  obtain ⟨p, n, cp⟩ := s
  exact ref10Leaf_n p n cp l just fin i w h hl hn
theorem enters_ref10Leaf : ∀ args w, (callFunc 13 args).run Try.prog w = .ok (.enter 13 args) w := entersE Try.func13 (by kernel_rfl) (by kernel_rfl)
end Go.Proofs.Ytanoijcgkacnmaa
