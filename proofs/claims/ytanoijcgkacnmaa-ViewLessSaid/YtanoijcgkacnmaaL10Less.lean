/-
  The law ViewLess, walked. (written by wip/gen/law10.py)
-/
import Derived.Test.YtanoijcgkacnmaaW10
import Derived.Test.YtanoijcgkacnmaaP06May
import Derived.Test.YtanoijcgkacnmaaGQ
namespace Go.Proofs.Ytanoijcgkacnmaa
open Go.RowKit

set_option maxRecDepth 100000 in
set_option maxHeartbeats 8000000 in
theorem viewLess_n (HLs : LeadsC) (HLf : LeafC) (HFr : FromC) (p : Option Addr) (n cp : Nat) (l : List Nd) (j : Nat) (k : Nat) (f : Int) (a : Int) (w : World) (h : SlE Ene w (.slice p n cp) l) (hl : l.length = n) (bj : j < 18446744073709551616) (bk : k < 18446744073709551616) :
    Calls Try.prog 5 #[.agg (tr ⟨⟨p, n, cp⟩⟩), .int .u64 (j : Int), .int .u64 (k : Int), .int .i64 f, .int .i64 a] w fun e w' => e = .returned (.bool true) ∧ Below w.heap.size w w' := by
  obtain ⟨W0, hW0⟩ : ∃ W0, W0 = w.alloc (.cells (tr ⟨⟨p, n, cp⟩⟩) 24) := ⟨_, rfl⟩
  have A : Hid (Tw w W0 w.heap.size ⟨p, n, cp⟩ l) := by rw [hW0]; exact tw_one h
  have HW := Lib.hid hW0
  have HL := Lib.hid hl
  have HAw := Lib.hid (fun W => awake_any10 HLs HLf HFr W)
  have HLs := Lib.hid HLs
  have HLf := Lib.hid HLf
  have HFr := Lib.hid HFr
  have Bj := Lib.hid bj
  have Bk := Lib.hid bk
  clear bj
  clear bk
  clear hW0 h hl
  have HMay := Lib.hid (fun W (g : SlE Ene W (.slice p n cp) l) => treeMay ⟨p, n, cp⟩ l W g)
  go_enter Try.func5, Try.ntmps5
  go_wp2_with fail
  rw [← HW.out]
  refine (HAw.out _).mono ?_
  rintro e w1 ⟨rfl, g⟩
  replace A := Lib.hid (A.out.keep g)
  clear g
  have z1 := A.out.z1
  have z0 := A.out.z0
  rw [sv_mk] at z0
  go_wp2_with fail
  refine (HMay.out _ A.out.s).mono ?_
  rintro e w2 ⟨rfl, g⟩
  replace A := Lib.hid (A.out.keep g)
  clear g
  replace z1 := A.out.z1
  replace z0 := A.out.z0
  rw [sv_mk] at z0
  clear HMay
  by_cases hm : MayT l
  case neg =>
    rw [decide_eq_false hm]
    clear hm
    go_wp2_with fail
    go_ret
    exact ⟨rfl, A.out.g⟩
  rw [decide_eq_true hm]
  have HN : Hid (n ≤ 12) := by show n ≤ 12; have := hm.le; have := HL.out; omega
  have HM := Lib.hid hm
  clear hm
  by_cases hk : j < k
  · have hki : decide ((j : Int) < (k : Int)) = true := decide_eq_true (by omega)
    have hki' : decide (j < k) = true := decide_eq_true (by omega)
    clear hk
    go_wp2_with fail
    go_ret
    exact ⟨rfl, A.out.g⟩
  have hki : decide ((j : Int) < (k : Int)) = false := decide_eq_false (by omega)
  have hki' : decide (j < k) = false := decide_eq_false (by omega)
  have HAb := Lib.hid (fun W (g : SlE Ene W (.slice p n cp) l) => treeAbove ⟨p, n, cp⟩ l a f W g)
  by_cases ha : aboveZ l a f = true
  case neg =>
    have ha' : aboveZ l a f = false := by simpa using ha
    rw [ha'] at HAb
    clear ha ha' hk
    go_wp2_with fail
    refine (HAb.out _ A.out.s).mono ?_
    rintro e w3 ⟨rfl, g⟩
    replace A := Lib.hid (A.out.keep g)
    clear g
    replace z1 := A.out.z1
    replace z0 := A.out.z0
    rw [sv_mk] at z0
    go_wp2_with fail
    go_ret
    exact ⟨rfl, A.out.g⟩
  rw [ha] at HAb
  have HA := Lib.hid (fun W (g : SlE Ene W (.slice p n cp) l) => HLs.out ⟨p, n, cp⟩ l j f W Bj.out g)
  rw [leads_yes HM.out] at HA
  have HB := Lib.hid (fun W (g : SlE Ene W (.slice p n cp) l) => HLs.out ⟨p, n, cp⟩ l k f W Bk.out g)
  rw [leads_yes HM.out] at HB
  have HC := Lib.hid (fun W (g : SlE Ene W (.slice p n cp) l) => HLs.out ⟨p, n, cp⟩ l j a W Bj.out g)
  rw [leads_yes HM.out] at HC
  have HLaw : Hid (∀ i, i < l.length → bn (boosT (leadB l j f) l.length) i = true → bn (boosT (leadB l k f) l.length) i = true ∧ bn (boosT (leadB l j a) l.length) i = true) := fun i hi e => by
    rw [boosT_at hi] at e ⊢
    rw [boosT_at hi]
    exact law_less HM.out (by omega) ha e
  have hnn : ((n : Int) != (n : Int)) = false := by simp
  clear hk ha
  go_wp2_with fail
  refine (HAb.out _ A.out.s).mono ?_
  rintro e w3 ⟨rfl, g⟩
  replace A := Lib.hid (A.out.keep g)
  clear g
  replace z1 := A.out.z1
  replace z0 := A.out.z0
  rw [sv_mk] at z0
  go_wp2_with fail
  refine (HA.out _ A.out.s).mono ?_
  rintro e w4 ⟨va, rfl, hv, g⟩
  replace A := Lib.hid (A.out.keep g)
  obtain ⟨pVa, cVa, rfl⟩ := slE_len hv (n := n) (by rw [boosT_len, HL.out])
  have Va := Lib.hid hv
  clear hv
  clear g
  replace z1 := A.out.z1
  replace z0 := A.out.z0
  rw [sv_mk] at z0
  go_wp2_with fail
  refine (HB.out _ A.out.s).mono ?_
  rintro e w5 ⟨va, rfl, hv, g⟩
  replace A := Lib.hid (A.out.keep g)
  replace Va := Lib.hid (slE_keep g Va.out)
  obtain ⟨pVb, cVb, rfl⟩ := slE_len hv (n := n) (by rw [boosT_len, HL.out])
  have Vb := Lib.hid hv
  clear hv
  clear g
  replace z1 := A.out.z1
  replace z0 := A.out.z0
  rw [sv_mk] at z0
  go_wp2_with fail
  refine (HC.out _ A.out.s).mono ?_
  rintro e w6 ⟨va, rfl, hv, g⟩
  replace A := Lib.hid (A.out.keep g)
  replace Va := Lib.hid (slE_keep g Va.out)
  replace Vb := Lib.hid (slE_keep g Vb.out)
  obtain ⟨pVc, cVc, rfl⟩ := slE_len hv (n := n) (by rw [boosT_len, HL.out])
  have Vc := Lib.hid hv
  clear hv
  clear g
  replace z1 := A.out.z1
  replace z0 := A.out.z0
  rw [sv_mk] at z0
  obtain ⟨bVa, oVa, rfl, _, xVa⟩ := boos_ptr Va.out (by rw [boosT_len]; have := HM.out.pos; omega)
  obtain ⟨bVb, oVb, rfl, _, xVb⟩ := boos_ptr Vb.out (by rw [boosT_len]; have := HM.out.pos; omega)
  obtain ⟨bVc, oVc, rfl, _, xVc⟩ := boos_ptr Vc.out (by rw [boosT_len]; have := HM.out.pos; omega)
  go_wp2_with fail
  go_loopw [15] (fun i wr => ∃ q : Nat, q ≤ n ∧ i = .int .i64 (q : Int) ∧ wr = w6) (fun i _ => n - (intOf i).toNat)
  case atStart => exact ⟨0, Nat.zero_le _, rfl, rfl⟩
  case round =>
    obtain ⟨q, hq, rfl, rfl⟩ := hrel
    by_cases hlt : q < n
    · have i0 : (0 : Int) ≤ (q : Int) := by omega
      have i1 : (q : Int) < (n : Int) := by omega
      have u1 : (q : Int) + 1 < 10000 := by have := HN.out; omega
      have hql : q < l.length := by have := HL.out; omega
      have ya := boos_cell xVa (i := q) (by rw [boosT_len]; exact hql)
      have yb := boos_cell xVb (i := q) (by rw [boosT_len]; exact hql)
      have yc := boos_cell xVc (i := q) (by rw [boosT_len]; exact hql)
      have HQ := Lib.hid (HLaw.out q hql)
      generalize bn (boosT (leadB l j f) l.length) q = ba at *
      generalize bn (boosT (leadB l k f) l.length) q = bb at *
      generalize bn (boosT (leadB l j a) l.length) q = bc at *
      have HLT := Lib.hid hlt
      clear hql hlt xVa xVb xVc
      cases ba
      · skip
        go_wp2_with fail
        go_roundw
        case rel => exact ⟨q + 1, HLT.out, by go_num, by first | rfl | trivial⟩
        case measure => simp [intOf]; have := HLT.out; omega
      · obtain ⟨rfl, rfl⟩ := HQ.out rfl
        go_wp2_with fail
        go_roundw
        case rel => exact ⟨q + 1, HLT.out, by go_num, by first | rfl | trivial⟩
        case measure => simp [intOf]; have := HLT.out; omega
    · obtain rfl : q = n := by omega
      clear hlt
      go_wp2_with fail
      go_ret
      exact ⟨rfl, A.out.g⟩
/-- The law. -/
theorem viewLessL (HLs : LeadsC) (HLf : LeafC) (HFr : FromC) (s : Tr) (l : List Nd) (j : UInt64) (k : UInt64) (f : Int) (a : Int) (w : World) (h : SlE Ene w (sv s.n) l) :
    Calls Try.prog 5 #[.agg (tr s), .int .u64 (j.toNat : Int), .int .u64 (k.toNat : Int), .int .i64 f, .int .i64 a] w fun e w' => e = .returned (.bool true) ∧ Below w.heap.size w w' := by
  obtain ⟨s⟩ := s
  have hn := sv_lenN h
  obtain ⟨p, n, cp⟩ := s
  exact viewLess_n HLs HLf HFr p n cp l j.toNat k.toNat f a w h hn j.toNat_lt k.toNat_lt
end Go.Proofs.Ytanoijcgkacnmaa
