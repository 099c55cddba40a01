/-
  The law LinkHonest, walked. (written by wip/gen/law15.py)
-/
import Derived.Test.YtkbifcfgcokmlaaQ19
import Derived.Deep.Cut
import Derived.Deep.CutRange
import Derived.Deep.RegionLaw
import Derived.Test.YtkbifcfgcokmlaaQ20
namespace Go.Proofs.Ytkbifcfgcokmlaa
open Go.RowKit
set_option maxRecDepth 100000

theorem ccs_ptr {w : World} {p : Option Addr} {n cp : Nat} {l : List Ck} (h : SlE Ecc w (.slice p n cp) l) (h0 : 0 < l.length) : ∃ b o, p = some ⟨b, o, none⟩ ∧ b < w.heap.size ∧ w.rangeAt b o (cellsE Ecc l) := by
  obtain ⟨b, o, c, e, _, q, x⟩ := slE_ne h h0
  injection e with e1 e2 e3
  exact ⟨b, o, e1, q, x⟩
theorem ckAt_in {l : List Ck} {i : Nat} (h : i < l.length) : ckAt l i = l[i] := by simp [ckAt, h]
theorem ccs_ld {w : World} {b off : Nat} {l : List Ck} {i : Nat} (h : w.rangeAt b off (cellsE Ecc l)) (hi : i < l.length) : ldA w (.pointer (some ⟨b, off + i * 33, none⟩)) 33 = some (cc (ckAt l i)) := by
  have := ldA_at h hi
  rw [ckAt_in hi]
  exact this.trans (by rw [show (Ecc.enc l[i]).toArray = cc l[i] from Array.toList_inj.1 (by rw [cc_list]; rfl)])
theorem ccs_e {w : World} {b off : Nat} {l : List Ck} {i : Nat} (h : w.rangeAt b off (cellsE Ecc l)) (hi : i < l.length) : w.cell? ⟨b, off + i * 33, none⟩ = some (.int .u64 ((ckAt l i).epoch.toNat : Int)) := by
  have := cc_rd_epoch (range_at h hi)
  rw [ckAt_in hi]
  exact this

set_option maxRecDepth 100000 in
set_option maxHeartbeats 16000000 in
theorem linkHonest_n (H : LinkC)  (pl : Option Addr) (nl cl : Nat) (l : List Ck) (val : Int) (w : World) (hl : SlE Ecc w (.slice pl nl cl) l) (ll : l.length = nl) :
    Calls Try.prog 8 #[.slice pl nl cl, .int .i64 val] w fun e w' => e = .returned (.bool true) ∧ Below w.heap.size w w' := by
  have hB := Below.refl w.heap.size w
  have A0 : Hid (Below w.heap.size w w) := hB
  have Kl := Lib.hid hl
  have Ll := Lib.hid ll
  have HAw := Lib.hid (fun W => awake_any15 H W)
  have HH := Lib.hid H
  clear H hB hl ll
  go_enter Try.func8, Try.ntmps8
  go_wp2_with fail
  refine (HAw.out _).mono ?_
  rintro e w1 ⟨rfl, g⟩
  replace A0 := Lib.hid (belowT A0.out g)
  replace Kl := Lib.hid (slE_keep g Kl.out)
  clear g
  by_cases h1 : 16 < nl
  · have h1i : decide ((16 : Int) < (nl : Int)) = true := decide_eq_true (by omega)
    have h1i' : decide (16 < nl) = true := decide_eq_true (by omega)
    clear h1
    go_wp2_with fail
    go_ret
    exact ⟨rfl, A0.out⟩
  have h1i : decide ((16 : Int) < (nl : Int)) = false := decide_eq_false (by omega)
  have h1i' : decide (16 < nl) = false := decide_eq_false (by omega)
  by_cases h2 : val < 0
  · have h2i : decide (val < 0) = true := decide_eq_true (h2)
    clear h2
    go_wp2_with fail
    go_ret
    exact ⟨rfl, A0.out⟩
  have h2i : decide (val < 0) = false := decide_eq_false (h2)
  by_cases h3 : 7 < val
  · have h3i : decide (7 < val) = true := decide_eq_true (h3)
    clear h3
    go_wp2_with fail
    go_ret
    exact ⟨rfl, A0.out⟩
  have h3i : decide (7 < val) = false := decide_eq_false (h3)
  have HN : Hid (nl ≤ 16) := by show _ ≤ _; omega
  have HV : Hid (0 ≤ val ∧ val < 8) := by show _ ∧ _; omega
  have HPut : Hid (∀ q u W, SlE Elk W u (chainK l (bitK val) q) → RiseK l (q + 1) → q < 16 → Calls Try.prog 10 #[u, .agg (cc (ckAt l q)), .agg (cc (ckAt l (q + 1))), .int .i64 val] W (LksEr (chainK l (bitK val) (q + 1)) 0 W)) := fun q u W h hr hq => by
    have k := HH.out.put u (chainK l (bitK val) q) (ckAt l q) (ckAt l (q + 1)) val W h (by rw [chainK_len]; omega)
    obtain ⟨k1, k2⟩ := chain_put HV.out hr hq
    rwa [k1, k2] at k
  have HG : Hid (∀ q u W, SlE Elk W u (chainK l (bitK val) q) → RiseK l q → q ≤ 16 → Calls Try.prog 20 #[u] W fun e w' => e = .returned (.int .u64 0) ∧ Below W.heap.size W w') := fun q u W h hr hq => by
    have k := HH.out.guilty u _ W h (by rw [chainK_len]; omega)
    rw [chain_free hr] at k
    exact k
  have HM : Hid (∀ q u W, SlE Elk W u (chainK l (bitK val) q) → RiseK l q → q ≤ 16 → Calls Try.prog 16 #[u] W fun e w' => e = .returned (.bool true) ∧ Below W.heap.size W w') := fun q u W h hr hq => by
    have k := HH.out.may u _ W h
    rwa [chain_may HV.out hr hq] at k
  have HCl : Hid (∀ q, (chainK l (bitK val) q).length = q) := fun q => chainK_len _ _ _
  have HZ : Hid (∀ W, SlE Elk W (.slice none 0 0) (chainK l (bitK val) 0)) := fun W => slE_nil _ _ _ _
  clear h1 h2 h3
  generalize bitK val = B at *
  go_wp2_with fail
  go_loopw [6, 7] (fun kv i wr => ∃ j q : Nat, j = q + 1 ∧ (j ≤ nl ∨ q = 0) ∧ i = .int .i64 (j : Int) ∧ SlE Elk wr kv (chainK l B q) ∧ RiseK l q ∧ Below w1.heap.size w1 wr) (fun _ i _ => nl - (intOf i).toNat)
  case atStart => exact ⟨1, 0, rfl, .inr rfl, rfl, HZ.out _, fun i hi => absurd hi (Nat.not_lt_zero _), Below.refl _ _⟩
  case round =>
    obtain ⟨j, q, hjq, hjn, rfl, hk, hr, hb⟩ := hrel
    have HB := Lib.hid hb
    have HK := Lib.hid hk
    have HR := Lib.hid hr
    have HJQ := Lib.hid hjq
    have HJN := Lib.hid hjn
    obtain ⟨pk, ck2, rfl⟩ := slE_len hk (HCl.out q)
    clear hb hk hr
    by_cases hlt : j < nl
    · have c0 : (j : Int) - 1 = (q : Int) := by omega
      have i0 : (0 : Int) ≤ (j : Int) := by omega
      have i1 : (j : Int) < (nl : Int) := by omega
      have q0 : (0 : Int) ≤ (q : Int) := by omega
      have q1 : (q : Int) < (nl : Int) := by omega
      have ww : wrap64 (q : Int) = (q : Int) := by unfold wrap64; have := HN.out; omega
      have u1 : (j : Int) + 1 < 10000 := by have := HN.out; omega
      have d0 : decide ((j : Int) < (nl : Int)) = true := decide_eq_true i1
      have d0' : decide (j < nl) = true := decide_eq_true hlt
      have HLT := Lib.hid hlt
      obtain ⟨b1, o1, rfl, _, x1⟩ := ccs_ptr (slE_keep HB.out Kl.out) (by have := Ll.out; omega)
      have X1 := Lib.hid x1
      have y1 := ccs_e x1 (i := j) (by have := Ll.out; omega)
      have y2 := ccs_e x1 (i := q) (by have := Ll.out; omega)
      have HE1 : Hid ((ckAt l q).epoch.toNat < (ckAt l j).epoch.toNat → RiseK l (q + 1)) := fun h i hi => by
        by_cases e : i = q
        · subst e; rw [← HJQ.out]; exact h
        · exact HR.out i (by omega)
      generalize (ckAt l j).epoch.toNat = EJ at *
      generalize (ckAt l q).epoch.toNat = EQ at *
      clear hlt x1 hjq hjn
      by_cases he : EJ ≤ EQ
      · have t1 : decide ((EJ : Int) ≤ (EQ : Int)) = true := decide_eq_true (by omega)
        have t1' : decide (EJ ≤ EQ) = true := decide_eq_true he
        clear he
        go_wp2_with fail
        go_quiet (fail)
        go_wp2_with fail
        go_ret
        exact ⟨rfl, belowD (belowT A0.out HB.out) _⟩
      · have t1 : decide ((EJ : Int) ≤ (EQ : Int)) = false := decide_eq_false (by omega)
        have t1' : decide (EJ ≤ EQ) = false := decide_eq_false he
        have HR2 := Lib.hid (HE1.out (by omega))
        have HP : Hid (∀ W, SlE Elk W (.slice pk q ck2) (chainK l B q) → Calls Try.prog 10 #[.slice pk q ck2, .agg (cc (ckAt l q)), .agg (cc (ckAt l j)), .int .i64 val] W (LksEr (chainK l B j) 0 W)) := fun W h => by
          have := HPut.out q _ W h HR2.out (by have := HLT.out; have := HN.out; have := HJQ.out; omega)
          rwa [← HJQ.out] at this
        clear he
        go_wp2_with fail
        go_quiet (fail)
        obtain ⟨v1, hv1⟩ : ∃ v, v = wr.drewN nq := ⟨_, rfl⟩
        have D1 : Hid (Below wr.heap.size wr v1) := by show Below _ _ _; rw [hv1]; exact belowD (Below.refl _ _) _
        have K1 := Lib.hid (slE_keep D1.out HK.out)
        have z1 := ccs_ld (keepR D1.out X1.out) (i := q) (by have := Ll.out; have := HLT.out; have := HJQ.out; omega)
        have z2 := ccs_ld (keepR D1.out X1.out) (i := j) (by have := Ll.out; have := HLT.out; omega)
        rw [← hv1]
        generalize ckAt l q = CQ at *
        generalize ckAt l j = CJ at *
        clear hv1 y1 y2 t1 t1'
        go_wp2_with fail
        have L0 := fun p : Wd v1.drew => wd_ld z1 (by decide) p
        have L1 := fun p : Wd v1.drew => wd_ld z2 (by decide) p
        clear z1 z2
        refine wp_region_lex [11] (by kernel_rfl) (by kernel_rfl) (by kernel_rfl) ?_
        repeat (first | (refine wpXL_quiet rfl rfl _ cls_begin ?_; (first | go_big_quiet_step (fail) | quiet_step (fail)); refine wpQuiet_nil ?_) | refine wpXL_skip rfl ?_)
        refine wpXL_call rfl rfl rfl enters_linkPut15 #[.slice pk q ck2, .agg (cc CQ), .agg (cc CJ), .int .i64 val] rfl ?_
        refine (HP.out _ (slE_keep (belowD (Below.refl _ _) 1) K1.out)).mono ?_
        rintro e u ⟨v5, rfl, hv5, g⟩
        refine ⟨_, rfl, g, ?_⟩
        simp only [Act.put, List.setIfInBounds_toArray, List.set_cons_zero, List.set_cons_succ]
        have G : Hid (Below wr.heap.size wr u) := belowT D1.out (belowT (belowD (Below.refl _ _) 1) g)
        have S5 := Lib.hid hv5
        clear g hv5
        repeat (first | (refine wpXL_quiet rfl rfl _ cls_begin ?_; (first | go_big_quiet_step (fail) | quiet_step (fail)); refine wpQuiet_nil ?_) | refine wpXL_skip rfl ?_)
        refine wpXL_nil ?_
        clear L0 L1
        go_wp2_with fail
        go_roundw
        case rel => exact ⟨j + 1, q + 1, by have := HJQ.out; omega, .inl HLT.out, by go_num, by rw [← HJQ.out]; exact S5.out, HR2.out, belowT HB.out G.out⟩
        case measure =>
          have := HLT.out
          have e1 : (intOf (.int .i64 (j : Int))).toNat = j := by simp only [intOf, Int.toNat_natCast]
          have e2 : ∀ z : Int, z = (j : Int) + 1 → (intOf (.int .i64 z)).toNat = j + 1 := fun z hz => by rw [hz]; simp only [intOf]; omega
          rw [e1]
          first | (rw [e2 _ rfl]; omega) | (simp [intOf]; omega)
    · have d0 : decide ((j : Int) < (nl : Int)) = false := decide_eq_false (by omega)
      have d0' : decide (j < nl) = false := decide_eq_false hlt
      have q0 : (0 : Int) ≤ (q : Int) := by omega
      have hq16 : q ≤ 16 := by have := HN.out; have := HJN.out; have := HJQ.out; omega
      have G1 := Lib.hid (fun W h => HG.out q (.slice pk q ck2) W h HR.out hq16)
      have M1 := Lib.hid (fun W h => HM.out q (.slice pk q ck2) W h HR.out hq16)
      have A1 := Lib.hid (belowT A0.out HB.out)
      have ww : wrap64 (q : Int) = (q : Int) := by unfold wrap64; omega
      by_cases h2 : nl < 2
      · have t2 : decide ((nl : Int) < 2) = true := decide_eq_true (by omega)
        have t2' : decide (nl < 2) = true := decide_eq_true h2
        clear hlt hq16 h2 hjq hjn
        go_wp2_with fail
        refine (G1.out _ HK.out).mono ?_
        rintro e w8 ⟨rfl, g⟩
        replace A1 := Lib.hid (belowT A1.out g)
        replace HK := Lib.hid (slE_keep g HK.out)
        clear g
        go_wp2_with fail
        refine (M1.out _ HK.out).mono ?_
        rintro e w9 ⟨rfl, g⟩
        replace A1 := Lib.hid (belowT A1.out g)
        clear g
        go_wp2_with fail
        go_ret
        exact ⟨rfl, A1.out⟩
      · have t2 : decide ((nl : Int) < 2) = false := decide_eq_false (by omega)
        have t2' : decide (nl < 2) = false := decide_eq_false h2
        have hqn : nl = q + 1 := by omega
        have c9 : (nl : Int) - 1 = (q : Int) := by omega
        have e9 : ((q : Int) == (q : Int)) = true := by simp
        clear hlt hq16 h2 hjq hjn hqn
        go_wp2_with fail
        refine (G1.out _ HK.out).mono ?_
        rintro e w8 ⟨rfl, g⟩
        replace A1 := Lib.hid (belowT A1.out g)
        replace HK := Lib.hid (slE_keep g HK.out)
        clear g
        go_wp2_with fail
        refine (M1.out _ HK.out).mono ?_
        rintro e w9 ⟨rfl, g⟩
        replace A1 := Lib.hid (belowT A1.out g)
        clear g
        go_wp2_with fail
        go_ret
        exact ⟨rfl, A1.out⟩
/-- The law. -/
theorem linkHonestL (H : LinkC)  (vl : Value) (l : List Ck) (val : Int) (w : World) (hl : SlE Ecc w vl l) :
    Calls Try.prog 8 #[vl, .int .i64 val] w fun e w' => e = .returned (.bool true) ∧ Below w.heap.size w w' := by
  have kl := hl
  obtain ⟨pl, cl, rfl, _⟩ := slE_shape hl
  exact linkHonest_n H  pl _ cl l val w kl rfl
end Go.Proofs.Ytkbifcfgcokmlaa
