/-
  The law ViewUp, walked. (written by wip/gen/law10.py)
-/
import Derived.Test.YtanoijcgkacnmaaW10
import Derived.Test.YtanoijcgkacnmaaP06May
namespace Go.Proofs.Ytanoijcgkacnmaa
open Go.RowKit

/-- The greatest of what the first so many have justified. -/
def maxJ (l : List Nd) : Nat → Nat
  | 0 => 0
  | q + 1 => if maxJ l q < (nd l q).just.toNat then (nd l q).just.toNat else maxJ l q
theorem maxJ_lt (l : List Nd) : ∀ q, maxJ l q < 18446744073709551616
  | 0 => by show 0 < _; decide
  | q + 1 => by
    show (if maxJ l q < (nd l q).just.toNat then (nd l q).just.toNat else maxJ l q) < _
    split
    · exact (nd l q).just.toNat_lt
    · exact maxJ_lt l q
theorem maxJ_ge (l : List Nd) : ∀ q k, k < q → (nd l k).just.toNat ≤ maxJ l q
  | 0, k, h => by omega
  | q + 1, k, h => by
    show _ ≤ (if maxJ l q < (nd l q).just.toNat then (nd l q).just.toNat else maxJ l q)
    by_cases e : k = q
    · subst e; split <;> omega
    · have := maxJ_ge l q k (by omega); split <;> omega

set_option maxRecDepth 100000 in
set_option maxHeartbeats 8000000 in
theorem viewUp_n (HLs : LeadsC) (HLf : LeafC) (HFr : FromC) (p : Option Addr) (n cp : Nat) (l : List Nd) (j : Nat) (f : Int) (i : Int) (w : World) (h : SlE Ene w (.slice p n cp) l) (hl : l.length = n) (bj : j < 18446744073709551616) :
    Calls Try.prog 7 #[.agg (tr ⟨⟨p, n, cp⟩⟩), .int .u64 (j : Int), .int .i64 f, .int .i64 i] w fun e w' => e = .returned (.bool true) ∧ Below w.heap.size w w' := by
  obtain ⟨W0, hW0⟩ : ∃ W0, W0 = w.alloc (.cells (tr ⟨⟨p, n, cp⟩⟩) 24) := ⟨_, rfl⟩
  have A : Hid (Tw w W0 w.heap.size ⟨p, n, cp⟩ l) := by rw [hW0]; exact tw_one h
  have HW := Lib.hid hW0
  have HL := Lib.hid hl
  have HAw := Lib.hid (fun W => awake_any10 HLs HLf HFr W)
  have HLs := Lib.hid HLs
  have HLf := Lib.hid HLf
  have HFr := Lib.hid HFr
  have Bj := Lib.hid bj
  clear bj
  clear hW0 h hl
  have HMay := Lib.hid (fun W (g : SlE Ene W (.slice p n cp) l) => treeMay ⟨p, n, cp⟩ l W g)
  go_enter Try.func7, Try.ntmps7
  go_wp2_with fail
  rw [← HW.out]
  refine (HAw.out _).mono ?_
  rintro e w1 ⟨rfl, g⟩
  replace A := Lib.hid (A.out.keep g)
  clear g
  have z1 := A.out.z1
  have z0 := A.out.z0
  rw [sv_mk] at z0
  go_wp2_with fail
  refine (HMay.out _ A.out.s).mono ?_
  rintro e w2 ⟨rfl, g⟩
  replace A := Lib.hid (A.out.keep g)
  clear g
  replace z1 := A.out.z1
  replace z0 := A.out.z0
  rw [sv_mk] at z0
  clear HMay
  by_cases hm : MayT l
  case neg =>
    rw [decide_eq_false hm]
    clear hm
    go_wp2_with fail
    go_ret
    exact ⟨rfl, A.out.g⟩
  rw [decide_eq_true hm]
  have HN : Hid (n ≤ 12) := by show n ≤ 12; have := hm.le; have := HL.out; omega
  have HM := Lib.hid hm
  clear hm
  by_cases hi0 : i < 1
  · have hi0i : decide (i < 1) = true := decide_eq_true (hi0)
    clear hi0
    go_wp2_with fail
    go_ret
    exact ⟨rfl, A.out.g⟩
  have hi0i : decide (i < 1) = false := decide_eq_false (hi0)
  by_cases hi1 : (n : Int) ≤ i
  · have hi1i : decide ((n : Int) ≤ i) = true := decide_eq_true (hi1)
    clear hi1
    go_wp2_with fail
    go_ret
    exact ⟨rfl, A.out.g⟩
  have hi1i : decide ((n : Int) ≤ i) = false := decide_eq_false (hi1)
  obtain ⟨i, rfl⟩ : ∃ i' : Nat, i = i' := ⟨i.toNat, by omega⟩
  have hil : i < l.length := by have := HL.out; omega
  have i0 : (0 : Int) ≤ (i : Int) := by omega
  have i1 : (i : Int) < (n : Int) := by have := HL.out; omega
  have hi1n : decide (n ≤ i) = false := decide_eq_false (by omega)
  have HA := Lib.hid (fun W (g : SlE Ene W (.slice p n cp) l) => HLs.out ⟨p, n, cp⟩ l j f W Bj.out g)
  rw [leads_yes HM.out] at HA
  have HB := Lib.hid (fun W (g : SlE Ene W (.slice p n cp) l) => HLs.out ⟨p, n, cp⟩ l ((maxJ l n + 1) % 18446744073709551616) f W (Nat.mod_lt _ (by decide)) g)
  rw [leads_yes HM.out] at HB
  obtain ⟨hpar, hu, _⟩ := HM.out.par (show 0 < i by omega) hil
  have Hpar := Lib.hid hpar
  have Hil := Lib.hid hil
  have Hu := Lib.hid hu
  have u0 : (0 : Int) ≤ (up l i : Int) := by omega
  have u1 : (up l i : Int) < (n : Int) := by omega
  have HUp : Hid (bn (boosT (leadB l j f) l.length) i = true → bn (boosT (leadB l j f) l.length) (up l i) = true) := fun e => by
    rw [boosT_at hil] at e
    rw [boosT_at (by omega)]
    exact lead_up HM.out ((above_iff HM.out (up l i) (by omega) hil).2 (.inr (above_refl HM.out (by omega)))) e
  have HNo : Hid (maxJ l n < 1152921504606846976 → ∀ k, k < l.length → bn (boosT (leadB l ((maxJ l n + 1) % 18446744073709551616) f) l.length) k = false) := fun e k hk => by
    rw [boosT_at hk, Nat.mod_eq_of_lt (by omega)]
    exact law_none HM.out (fun k hk => by have := maxJ_ge l n k (by have := HL.out; omega); omega) k
  have HMx := Lib.hid (maxJ_lt l)
  have hnn : ((n : Int) != (n : Int)) = false := by simp
  clear hi0 hi1 hil hpar hu
  go_wp2_with fail
  refine (HA.out _ A.out.s).mono ?_
  rintro e w3 ⟨va, rfl, hv, g⟩
  replace A := Lib.hid (A.out.keep g)
  obtain ⟨pVa, cVa, rfl⟩ := slE_len hv (n := n) (by rw [boosT_len, HL.out])
  have Va := Lib.hid hv
  clear hv
  clear g
  replace z1 := A.out.z1
  replace z0 := A.out.z0
  rw [sv_mk] at z0
  obtain ⟨b1, o1, rfl, _, x1⟩ := slE_ptr A.out.s (by have := HM.out.pos; omega)
  replace z0 := A.out.z0
  rw [sv_mk] at z0
  have X1 := Lib.hid x1
  clear x1
  go_wp2_with fail
  go_loopw [11, 12] (fun v k wr => ∃ q : Nat, q ≤ n ∧ k = .int .i64 (q : Int) ∧ v = .int .u64 (maxJ l q : Int) ∧ wr = w3) (fun _ k _ => n - (intOf k).toNat)
  case atStart => exact ⟨0, Nat.zero_le _, rfl, rfl, rfl⟩
  case round =>
    obtain ⟨q, hq, rfl, rfl, rfl⟩ := hrel
    by_cases hlt : q < n
    · have i0 : (0 : Int) ≤ (q : Int) := by omega
      have i1 : (q : Int) < (n : Int) := by omega
      have u1 : (q : Int) + 1 < 10000 := by have := HN.out; omega
      have yj := nds_just X1.out (i := q) (by have := HL.out; omega)
      have HE : Hid (maxJ l (q + 1) = if maxJ l q < (nd l q).just.toNat then (nd l q).just.toNat else maxJ l q) := Lib.hid rfl
      generalize (nd l q).just.toNat = J at *
      generalize maxJ l q = M at *
      have HLT := Lib.hid hlt
      clear hlt
      by_cases hJ : M < J
      · have d0 : decide ((M : Int) < (J : Int)) = true := decide_eq_true (by omega)
        have d0' : decide (M < J) = true := decide_eq_true hJ
        rw [if_pos hJ] at HE
        clear hJ
        go_wp2_with fail
        go_roundw
        case rel => exact ⟨q + 1, HLT.out, by go_num, by rw [HE.out], by first | rfl | trivial⟩
        case measure => simp [intOf]; have := HLT.out; omega
      · have d0 : decide ((M : Int) < (J : Int)) = false := decide_eq_false (by omega)
        have d0' : decide (M < J) = false := decide_eq_false hJ
        rw [if_neg hJ] at HE
        clear hJ
        go_wp2_with fail
        go_roundw
        case rel => exact ⟨q + 1, HLT.out, by go_num, by rw [HE.out], by first | rfl | trivial⟩
        case measure => simp [intOf]; have := HLT.out; omega
    · obtain rfl : q = n := by omega
      clear hlt
      obtain ⟨bVa, oVa, rfl, _, xVa⟩ := boos_ptr Va.out (by rw [boosT_len]; have := HM.out.pos; omega)
      have yi := boos_cell xVa (i := i) (by rw [boosT_len]; exact Hil.out)
      have yu := boos_cell xVa (i := up l i) (by rw [boosT_len]; have := Hil.out; have := Hu.out; omega)
      have yp := nds_par X1.out (i := i) Hil.out
      rw [Hpar.out] at yp
      generalize bn (boosT (leadB l j f) l.length) i = bi at *
      generalize bn (boosT (leadB l j f) l.length) (up l i) = bu at *
      generalize up l i = u at *
      have Hmx := Lib.hid (HMx.out q)
      generalize maxJ l q = M at *
      clear xVa
      have hw : IntKind.u64.wrap ((M : Int) + 1) = (((M + 1) % 18446744073709551616 : Nat) : Int) := by rw [IntKind.wrap_u64]; omega
      cases bi
      · skip
        go_wp2_with fail
        (try rw [hw])
        clear yi yu yp
        refine (HB.out _ A.out.s).mono ?_
        rintro e w8 ⟨va, rfl, hv, g⟩
        replace A := Lib.hid (A.out.keep g)
        obtain ⟨pc, cc, rfl⟩ := slE_len hv (n := q) (by rw [boosT_len, HL.out])
        have Vc := Lib.hid hv
        clear hv g
        go_wp2_with fail
        go_loopw [14] (fun k wr => ∃ z : Nat, z ≤ q ∧ k = .int .i64 (z : Int) ∧ wr = w8) (fun k _ => q - (intOf k).toNat)
        case atStart => exact ⟨0, Nat.zero_le _, rfl, rfl⟩
        case round =>
          obtain ⟨z, hz, rfl, rfl⟩ := hrel
          by_cases hlt : z < q
          · have d0 : decide ((z : Int) < (q : Int)) = true := decide_eq_true (by omega)
            have d0' : decide (z < q) = true := decide_eq_true hlt
            by_cases hM : M < 1152921504606846976
            · have e0 : decide ((M : Int) < 1152921504606846976) = true := decide_eq_true (by omega)
              have e0' : decide (M < 1152921504606846976) = true := decide_eq_true hM
              have k0 : (0 : Int) ≤ (z : Int) := by omega
              have k1 : (z : Int) < (q : Int) := by omega
              have v1 : (z : Int) + 1 < 10000 := by have := HN.out; omega
              obtain ⟨bVc, oVc, rfl, _, xVc⟩ := boos_ptr Vc.out (by rw [boosT_len]; have := HM.out.pos; omega)
              have yz := boos_cell xVc (i := z) (by rw [boosT_len]; have := HL.out; omega)
              rw [HNo.out hM z (by have := HL.out; omega)] at yz
              have HLT := Lib.hid hlt
              clear hlt hM xVc
              go_wp2_with fail
              go_roundw
              case rel => exact ⟨z + 1, HLT.out, by go_num, by first | rfl | trivial⟩
              case measure => simp [intOf]; have := HLT.out; omega
            · have e0 : decide ((M : Int) < 1152921504606846976) = false := decide_eq_false (by omega)
              have e0' : decide (M < 1152921504606846976) = false := decide_eq_false hM
              clear hlt hM
              go_wp2_with fail
              go_ret
              exact ⟨rfl, A.out.g⟩
          · have d0 : decide ((z : Int) < (q : Int)) = false := decide_eq_false (by omega)
            have d0' : decide (z < q) = false := decide_eq_false hlt
            clear hlt
            go_wp2_with fail
            go_ret
            exact ⟨rfl, A.out.g⟩
      · obtain rfl := HUp.out rfl
        go_wp2_with fail
        (try rw [hw])
        clear yi yu yp
        refine (HB.out _ A.out.s).mono ?_
        rintro e w8 ⟨va, rfl, hv, g⟩
        replace A := Lib.hid (A.out.keep g)
        obtain ⟨pc, cc, rfl⟩ := slE_len hv (n := q) (by rw [boosT_len, HL.out])
        have Vc := Lib.hid hv
        clear hv g
        go_wp2_with fail
        go_loopw [14] (fun k wr => ∃ z : Nat, z ≤ q ∧ k = .int .i64 (z : Int) ∧ wr = w8) (fun k _ => q - (intOf k).toNat)
        case atStart => exact ⟨0, Nat.zero_le _, rfl, rfl⟩
        case round =>
          obtain ⟨z, hz, rfl, rfl⟩ := hrel
          by_cases hlt : z < q
          · have d0 : decide ((z : Int) < (q : Int)) = true := decide_eq_true (by omega)
            have d0' : decide (z < q) = true := decide_eq_true hlt
            by_cases hM : M < 1152921504606846976
            · have e0 : decide ((M : Int) < 1152921504606846976) = true := decide_eq_true (by omega)
              have e0' : decide (M < 1152921504606846976) = true := decide_eq_true hM
              have k0 : (0 : Int) ≤ (z : Int) := by omega
              have k1 : (z : Int) < (q : Int) := by omega
              have v1 : (z : Int) + 1 < 10000 := by have := HN.out; omega
              obtain ⟨bVc, oVc, rfl, _, xVc⟩ := boos_ptr Vc.out (by rw [boosT_len]; have := HM.out.pos; omega)
              have yz := boos_cell xVc (i := z) (by rw [boosT_len]; have := HL.out; omega)
              rw [HNo.out hM z (by have := HL.out; omega)] at yz
              have HLT := Lib.hid hlt
              clear hlt hM xVc
              go_wp2_with fail
              go_roundw
              case rel => exact ⟨z + 1, HLT.out, by go_num, by first | rfl | trivial⟩
              case measure => simp [intOf]; have := HLT.out; omega
            · have e0 : decide ((M : Int) < 1152921504606846976) = false := decide_eq_false (by omega)
              have e0' : decide (M < 1152921504606846976) = false := decide_eq_false hM
              clear hlt hM
              go_wp2_with fail
              go_ret
              exact ⟨rfl, A.out.g⟩
          · have d0 : decide ((z : Int) < (q : Int)) = false := decide_eq_false (by omega)
            have d0' : decide (z < q) = false := decide_eq_false hlt
            clear hlt
            go_wp2_with fail
            go_ret
            exact ⟨rfl, A.out.g⟩
/-- The law. -/
theorem viewUpL (HLs : LeadsC) (HLf : LeafC) (HFr : FromC) (s : Tr) (l : List Nd) (j : UInt64) (f : Int) (i : Int) (w : World) (h : SlE Ene w (sv s.n) l) :
    Calls Try.prog 7 #[.agg (tr s), .int .u64 (j.toNat : Int), .int .i64 f, .int .i64 i] w fun e w' => e = .returned (.bool true) ∧ Below w.heap.size w w' := by
  obtain ⟨s⟩ := s
  have hn := sv_lenN h
  obtain ⟨p, n, cp⟩ := s
  exact viewUp_n HLs HLf HFr p n cp l j.toNat f i w h hn j.toNat_lt
end Go.Proofs.Ytanoijcgkacnmaa
