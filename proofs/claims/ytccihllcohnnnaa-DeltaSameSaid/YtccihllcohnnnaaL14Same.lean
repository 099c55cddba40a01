/-
  The law DeltaSame, walked. (written by wip/gen/law14.py)
-/
import Derived.Test.YtccihllcohnnnaaQ27
import Derived.Test.YtccihllcohnnnaaQ28
import Derived.Test.YtccihllcohnnnaaQ26
import Derived.Deep.Cut
import Derived.Deep.CutRange
import Derived.Deep.RegionLaw
import Derived.OwnWalk
namespace Go.Proofs.Ytccihllcohnnnaa
open Go.RowKit
set_option maxRecDepth 100000

/-- What Put answers, in a new variable, wherever its block came up. -/
def CutS (W : World) (X : Vt) (t k e : Value) (wx : World) : Prop :=
  ∃ T s', t = .pointer (some ⟨T, 0, none⟩) ∧ (∃ K : Nat, k = .int .i64 (K : Int)) ∧ (∃ K : Nat, e = .int .i64 (K : Int)) ∧ wx.heap[T]? = some (.cells (vo ⟨s', X.out⟩) 28 (0, 0)) ∧ SlE Elt wx (sv s') X.l ∧ Below W.heap.size W wx

set_option maxRecDepth 100000 in
set_option maxHeartbeats 8000000 in
theorem deltaSame_n (H : DeltaC) (H' : BesideC) (pt : Option Addr) (nt ct : Nat) (l : List Nd) (pv : Option Addr) (nv cv : Nat) (v : Vt) (pbal : Option Addr) (nbal cbal : Nat) (bal : List UInt64) (i : Int) (ep : UInt64) (w : World) (ht : SlE Ene w (.slice pt nt ct) l) (lt : l.length = nt) (hv : SlE Elt w (.slice pv nv cv) v.l) (lv : v.l.length = nv) (hbal : SlE Enum w (.slice pbal nbal cbal) bal) (lbal : bal.length = nbal) :
    Calls Try.prog 6 #[.agg (tr ⟨⟨pt, nt, ct⟩⟩), .agg (vo ⟨⟨pv, nv, cv⟩, v.out⟩), .slice pbal nbal cbal, .int .i64 i, .int .u64 (ep.toNat : Int)] w fun e w' => e = .returned (.bool true) ∧ Below w.heap.size w w' := by
  obtain ⟨W0, hW0⟩ : ∃ W0, W0 = ((w.alloc (.cells (tr ⟨⟨pt, nt, ct⟩⟩) 24)).alloc (.cells (vo ⟨⟨pv, nv, cv⟩, v.out⟩) 28)) := ⟨_, rfl⟩
  obtain ⟨hB, b0, b1, _⟩ := heap2 w _ _ _ _ W0 hW0
  have A : Hid (Tw w W0 (w.heap.size) ⟨pt, nt, ct⟩ l) := ⟨b0, slE_keep hB ht, hB⟩
  have Av : Hid (Vw w W0 (w.heap.size + 1) ⟨pv, nv, cv⟩ v) := ⟨b1, slE_keep hB hv, hB⟩
  have Lt := Lib.hid lt
  have Lv := Lib.hid lv
  have Lbal := Lib.hid lbal
  have Kbal := Lib.hid (slE_keep hB hbal)
  have HW := Lib.hid hW0
  have HAw := Lib.hid (fun W => awake_any14 H H' W)
  have HH := Lib.hid H
  have HJ := Lib.hid H'
  clear H H' hW0 hB b0 b1 ht lt hv lv hbal lbal
  go_enter Try.func6, Try.ntmps6
  go_wp2_with fail
  rw [← HW.out]
  refine (HAw.out _).mono ?_
  rintro e w1 ⟨rfl, g⟩
  replace A := Lib.hid (A.out.keep g)
  replace Av := Lib.hid (Av.out.keep g)
  replace Kbal := Lib.hid (slE_keep g Kbal.out)
  clear g
  have HS : Hid (∀ (u v : Value) (a : List UInt64) (W : World), SlE Enum W u a → SlE Enum W v a → a.length ≤ 20 → Calls Try.prog 16 #[u, v] W fun e w' => e = .returned (.bool true) ∧ Below W.heap.size W w') := fun u v a W h h' hl => by
    have := ref08Same u v a a W h h' (by omega)
    rwa [decide_eq_true rfl] at this
  obtain ⟨ii, hi, hz0, hz1, hz2⟩ := info_parts info_num
  have HF1 := Lib.hid (fun W (h : SlE Ene W (.slice pt nt ct) l) (h1 : SlE Elt W (.slice pv nv cv) v.l) (h2 : SlE Elt W (.slice pv nv cv) v.l) (h9 : SlE Enum W (.slice pbal nbal cbal) bal) => HH.out.of ⟨pt, nt, ct⟩ ⟨pv, nv, cv⟩ ⟨pv, nv, cv⟩ _ l v v bal W h h1 h2 h9)
  have HFd := Lib.hid (fun (r : Rt) W (h : SlE Ene W (.slice pt nt ct) l) => HJ.out.find ⟨pt, nt, ct⟩ l r W h)
  have HX0 : Hid (ofB l v v bal = true → plusL l v v bal = List.replicate nt 0 ∧ minusL l v v bal = List.replicate nt 0 ∧ nv ≤ 8 ∧ bal.length = nv ∧ 0 < nt) := fun e => by
    have hf := (of_iff.1 e).1
    obtain ⟨hm, hv, hb, hlen⟩ := fit_iff.1 hf
    have e1 := Lt.out
    have e2 := Lv.out
    have h8 := (mayV_iff.1 hv).2.1
    have hp := hm.pos
    have := law_dnone hf
    rw [e1] at this
    exact ⟨this.2.1, this.2.2, by omega, by omega, by omega⟩
  have HX1 : Hid (ofB l v v bal = true → ∀ j : Nat, j < nv → (lat v.l j).has = true → (lat v.l j).epoch.toNat < ep.toNat → ofB l v (putV v j (lat v.l j).root ep) bal = true ∧ plusL l v (putV v j (lat v.l j).root ep) bal = minusL l v (putV v j (lat v.l j).root ep) bal ∧ (plusL l v (putV v j (lat v.l j).root ep) bal).length = nt ∧ (findT l (lat v.l j).root < 0 ∨ ∃ k : Nat, findT l (lat v.l j).root = k ∧ k < nt ∧ fn (plusL l v (putV v j (lat v.l j).root ep) bal) k = fn bal j)) := fun e j hj hh he => by
    have := law_dsame (of_iff.1 e).1 (by have := Lv.out; omega) hh he
    rw [Lt.out] at this
    exact this
  obtain ⟨f, hf⟩ : ∃ f, f = ofB l v v bal := ⟨_, rfl⟩
  rw [← hf] at HX0 HX1 HF1
  clear hf
  generalize plusL l v v bal = P at *
  generalize minusL l v v bal = N at *
  have z0t := A.out.z0
  rw [sv_mk] at z0t
  have z1t := A.out.z1
  have z1v := Av.out.z1
  go_wp2_with fail
  refine (HF1.out _ A.out.s Av.out.s Av.out.s Kbal.out).mono ?_
  rintro e w2 ⟨u1, u2, rfl, hs, ht, g⟩
  replace A := Lib.hid (A.out.keep g)
  replace Av := Lib.hid (Av.out.keep g)
  replace Kbal := Lib.hid (slE_keep g Kbal.out)
  have U1 := Lib.hid hs
  have U2 := Lib.hid ht
  clear g z1t z1v hs ht z0t
  have z0t := A.out.z0
  rw [sv_mk] at z0t
  by_cases h1 : 20 < nt
  · have h1i : decide ((20 : Int) < (nt : Int)) = true := decide_eq_true (by omega)
    have h1i' : decide (20 < nt) = true := decide_eq_true (by omega)
    clear h1
    go_wp2_with fail
    go_ret
    exact ⟨rfl, A.out.g⟩
  have h1i : decide ((20 : Int) < (nt : Int)) = false := decide_eq_false (by omega)
  have h1i' : decide (20 < nt) = false := decide_eq_false (by omega)
  have HNt : Hid (nt ≤ 20) := by show nt ≤ 20; omega
  clear h1
  cases f
  · skip
    go_wp2_with fail
    go_ret
    exact ⟨rfl, A.out.g⟩
  obtain ⟨k1, k2, k3, k4, k5⟩ := HX0.out rfl
  subst k1 k2
  have K3 := Lib.hid k3
  have K4 := Lib.hid k4
  have K5 := Lib.hid k5
  replace HX1 := Lib.hid (HX1.out rfl)
  clear k3 k4 k5 HX0 HF1
  have HC : Hid (∀ W, Below w2.heap.size w2 W → W.cell? ⟨w.heap.size, 0, none⟩ = some (.slice pt nt ct)) := fun W g => by
    have k0 := (A.out.keep g).z0
    rw [sv_mk] at k0
    exact k0
  go_wp2_with (at_make; refine wpList_make_full _ rfl _ _ 29 rfl w2.heap.size 26 ii _ 1 Try.underlying29 hi hz0 hz1 .i64 .i64 _ _ nt rfl rfl rfl rfl (by rw [hz2]; have := HNt.out; omega) (by unfold maxLen; have := HNt.out; omega) (Nat.le_refl _) ?_; intro wz hown hgrow; have zy := HC.out wz ((Below.refl _ _).grown hgrow (Nat.le_refl _) (fun k hk => by cases hk)))
  have g : Below w2.heap.size w2 wz := (Below.refl _ _).grown hgrow (Nat.le_refl _) (fun k hk => by cases hk)
  replace A := Lib.hid (A.out.keep g)
  replace Av := Lib.hid (Av.out.keep g)
  replace Kbal := Lib.hid (slE_keep g Kbal.out)
  replace U1 := Lib.hid (slE_keep g U1.out)
  replace U2 := Lib.hid (slE_keep g U2.out)
  have Z0 := Lib.hid (made_zeros hown)
  clear g hown hgrow HC zy z0t hi hz0 hz1 hz2 ii
  have k6 : Hid ((List.replicate nt (0 : UInt64)).length ≤ 20) := by show _ ≤ 20; rw [List.length_replicate]; exact HNt.out
  generalize List.replicate nt (0 : UInt64) = Z at *
  refine (HS.out _ _ _ _ U1.out Z0.out k6.out).mono ?_
  rintro e w3 ⟨rfl, g⟩
  replace A := Lib.hid (A.out.keep g)
  replace Av := Lib.hid (Av.out.keep g)
  replace Kbal := Lib.hid (slE_keep g Kbal.out)
  replace U1 := Lib.hid (slE_keep g U1.out)
  replace U2 := Lib.hid (slE_keep g U2.out)
  replace Z0 := Lib.hid (slE_keep g Z0.out)
  clear g
  go_wp2_with fail
  refine (HS.out _ _ _ _ U2.out Z0.out k6.out).mono ?_
  rintro e w4 ⟨rfl, g⟩
  replace A := Lib.hid (A.out.keep g)
  replace Av := Lib.hid (Av.out.keep g)
  replace Kbal := Lib.hid (slE_keep g Kbal.out)
  replace U1 := Lib.hid (slE_keep g U1.out)
  replace U2 := Lib.hid (slE_keep g U2.out)
  replace Z0 := Lib.hid (slE_keep g Z0.out)
  clear g
  clear U1 U2 Z0
  clear k6
  have z0v := Av.out.z0
  rw [sv_mk] at z0v
  by_cases h2 : i < 0
  · have h2i : decide (i < 0) = true := decide_eq_true (h2)
    clear h2
    go_wp2_with fail
    go_ret
    exact ⟨rfl, A.out.g⟩
  have h2i : decide (i < 0) = false := decide_eq_false (h2)
  by_cases h3 : (nv : Int) ≤ i
  · have h3i : decide ((nv : Int) ≤ i) = true := decide_eq_true (h3)
    clear h3
    go_wp2_with fail
    go_ret
    exact ⟨rfl, A.out.g⟩
  have h3i : decide ((nv : Int) ≤ i) = false := decide_eq_false (h3)
  obtain ⟨j, rfl⟩ : ∃ j : Nat, i = j := ⟨i.toNat, by omega⟩
  have hjn : j < nv := by omega
  have i0 : (0 : Int) ≤ (j : Int) := by omega
  have i1 : (j : Int) < (nv : Int) := by omega
  have HJn := Lib.hid hjn
  obtain ⟨b1, o1, rfl, hb1, x1⟩ := lats_ptr Av.out.s (by have := Lv.out; omega)
  have yh := lats_has x1 (i := j) (by have := Lv.out; omega)
  have yr := lats_root x1 (i := j) (by have := Lv.out; omega)
  have ye := lats_epoch14 x1 (i := j) (by have := Lv.out; omega)
  have XV := Lib.hid x1
  have HB1 := Lib.hid hb1
  have HXj := Lib.hid (HX1.out j hjn)
  have HP0 := Lib.hid (fun W (r : Rt) (h1 : SlE Elt W (.slice (some ⟨b1, o1, none⟩) nv cv) v.l) => HJ.out.put ⟨some ⟨b1, o1, none⟩, nv, cv⟩ v (j : Int) r ep W h1 (by have := Lv.out; have := K3.out; omega))
  obtain ⟨R, hR⟩ : ∃ R, R = (lat v.l j).root := ⟨_, rfl⟩
  have HRe := Lib.hid hR
  rw [← hR] at yr HXj
  obtain ⟨h, hh⟩ : ∃ h, h = (lat v.l j).has := ⟨_, rfl⟩
  rw [← hh] at yh HXj
  obtain ⟨E, hE⟩ : ∃ E, E = (lat v.l j).epoch.toNat := ⟨_, rfl⟩
  rw [← hE] at ye HXj
  clear h2 h3 hjn x1 hb1 hR hh hE HX1
  cases h
  · skip
    go_wp2_with fail
    go_ret
    exact ⟨rfl, A.out.g⟩
  by_cases h4 : ep.toNat ≤ E
  · have d4 : decide ((ep.toNat : Int) ≤ (E : Int)) = true := decide_eq_true (by omega)
    have d4' : decide (ep.toNat ≤ E) = true := decide_eq_true h4
    clear h4
    go_wp2_with fail
    go_ret
    exact ⟨rfl, A.out.g⟩
  have d4 : decide ((ep.toNat : Int) ≤ (E : Int)) = false := decide_eq_false (by omega)
  have d4' : decide (ep.toNat ≤ E) = false := decide_eq_false h4
  obtain ⟨q1, q2, q3, q4⟩ := HXj.out rfl (by omega)
  have HP := Lib.hid (fun W h1 => HP0.out W R h1)
  have HYl : Hid ((putV v (j : Int) R ep).l.length ≤ 1000) := by show _ ≤ _; rw [put_len]; have := Lv.out; have := K3.out; omega
  generalize putV v (j : Int) R ep = X at *
  generalize putVk v (j : Int) R ep = KK at *
  generalize putVe v (j : Int) = EE at *
  have HF2 := Lib.hid (fun W (s : SlV) (h : SlE Ene W (.slice pt nt ct) l) (h1 : SlE Elt W (.slice (some ⟨b1, o1, none⟩) nv cv) v.l) (h2 : SlE Elt W (sv s) X.l) (h9 : SlE Enum W (.slice pbal nbal cbal) bal) => HH.out.of ⟨pt, nt, ct⟩ ⟨some ⟨b1, o1, none⟩, nv, cv⟩ s _ l v X bal W h h1 h2 h9)
  rw [q1, ← q2] at HF2
  have HF3 := Lib.hid (fun W h => HFd.out R W h)
  have Q3 := Lib.hid q3
  generalize plusL l v X bal = P at *
  generalize findT l R = F at *
  have Q4 := Lib.hid q4
  clear h4 q1 q2 q3 q4 HXj HP0 HFd
  have z1v := Av.out.z1
  go_wp2_with fail
  go_upto_region 12 with fail
  go_cut [18, 19, 20] from 93 to 106 (fun t k e wx => CutS w4 X t k e wx)
  case first =>
    have hwB : w4.heap.size ≤ w4.drew.heap.size := Nat.le_refl _
    have Q0 := wdB_ld (B := w4.heap.size) z1v (vo_cells Av.out.box).2.2.2
    have Q1 := wdB_ld (B := w4.heap.size) yr HB1.out
    have Q2 := wdB_cell (B := w4.heap.size) z0v (vo_cells Av.out.box).2.2.2
    clear z1v z0v yr yh ye
    refine wp_region_G w4.heap.size [] [9, 14, 15] (by kernel_rfl) ?_
    refine GX.take2 0 rfl rfl rfl (by kernel_rfl) (by kernel_rfl) (by kernel_rfl) rfl hwB ?_
    (first | go_big_quiet_step (fail) | quiet_step (fail)); refine wpQuiet_nil ?_
    refine GX.take2 1 rfl rfl rfl (by kernel_rfl) (by kernel_rfl) (by kernel_rfl) rfl hwB ?_
    (first | go_big_quiet_step (fail) | quiet_step (fail)); refine wpQuiet_nil ?_
    refine GX.take2 2 rfl rfl rfl (by kernel_rfl) (by kernel_rfl) (by kernel_rfl) rfl hwB ?_
    (first | go_big_quiet_step (fail) | quiet_step (fail)); refine wpQuiet_nil ?_
    refine GX.take2 3 rfl rfl rfl (by kernel_rfl) (by kernel_rfl) (by kernel_rfl) rfl hwB ?_
    (first | go_big_quiet_step (fail) | quiet_step (fail)); refine wpQuiet_nil ?_
    refine GX.take2 4 rfl rfl rfl (by kernel_rfl) (by kernel_rfl) (by kernel_rfl) rfl hwB ?_
    (first | go_big_quiet_step (fail) | quiet_step (fail)); refine wpQuiet_nil ?_
    refine GX.take2 5 rfl rfl rfl (by kernel_rfl) (by kernel_rfl) (by kernel_rfl) rfl hwB ?_
    (first | go_big_quiet_step (fail) | quiet_step (fail)); refine wpQuiet_nil ?_
    refine GX.take2 6 rfl rfl rfl (by kernel_rfl) (by kernel_rfl) (by kernel_rfl) rfl hwB ?_
    (first | go_big_quiet_step (fail) | quiet_step (fail)); refine wpQuiet_nil ?_
    refine GX.take2 7 rfl rfl rfl (by kernel_rfl) (by kernel_rfl) (by kernel_rfl) rfl hwB ?_
    (first | go_big_quiet_step (fail) | quiet_step (fail)); refine wpQuiet_nil ?_
    refine GX.take2 8 rfl rfl rfl (by kernel_rfl) (by kernel_rfl) (by kernel_rfl) rfl hwB ?_
    (first | go_big_quiet_step (fail) | quiet_step (fail)); refine wpQuiet_nil ?_
    refine GX.branch2 9 14 (by kernel_rfl) ?_ ?_
    · skip
      refine xOp_call rfl rfl rfl rfl enters_votePut14 #[.agg (vo ⟨⟨some ⟨b1, o1, none⟩, nv, cv⟩, v.out⟩), .int .i64 (j : Int), .agg (rc R), .int .u64 (ep.toNat : Int)] rfl ?_
      refine (HP.out _ (slE_keep (belowD (Below.refl _ _) 1) Av.out.s)).mono ?_
      rintro e w40 ⟨s2, rfl, hs2, g2⟩
      refine ⟨_, rfl, g2, ?_⟩
      simp only [Act.put, List.setIfInBounds_toArray, List.set_cons_zero, List.set_cons_succ]
      have g3 : Below w4.heap.size w4 w40 := belowT (belowD (Below.refl _ _) 1) g2
      refine GX.take2 10 rfl rfl rfl (by kernel_rfl) (by kernel_rfl) (by kernel_rfl) rfl hwB ?_
      (first | go_big_quiet_step (fail) | quiet_step (fail)); refine wpQuiet_nil ?_
      refine GX.take2 11 rfl rfl rfl (by kernel_rfl) (by kernel_rfl) (by kernel_rfl) rfl hwB ?_
      (first | go_big_quiet_step (fail) | quiet_step (fail)); refine wpQuiet_nil ?_
      refine GX.take2 12 rfl rfl rfl (by kernel_rfl) (by kernel_rfl) (by kernel_rfl) rfl hwB ?_
      (first | go_big_quiet_step (fail) | quiet_step (fail)); refine wpQuiet_nil ?_
      refine GX.take2 13 rfl rfl rfl (by kernel_rfl) (by kernel_rfl) (by kernel_rfl) rfl hwB ?_
      (first | go_big_quiet_step (fail) | quiet_step (fail)); refine wpQuiet_nil ?_
      refine GX.branch1 14 (by kernel_rfl) ?_
      refine xOp_eff rfl rfl rfl (.pointer (some ⟨w40.heap.size, 0, none⟩)) (w40.alloc (.cells (vo zvo) 28)) (by go_simp) (relE_lq below1) ?_
      simp only [Act.put, List.setIfInBounds_toArray, List.set_cons_zero, List.set_cons_succ]
      have hn : (w40.alloc (.cells (vo zvo) 28)).heap[w40.heap.size]? = some (.cells (vo zvo) 28 (0, 0)) := heap_alloc_last _ _
      have hs3 := slE_keep (below1 (o := .cells (vo zvo) 28)) hs2
      have g4 := belowT g3 (below1 (o := .cells (vo zvo) 28))
      obtain ⟨W5, hW5⟩ : ∃ W, W = w40.alloc (.cells (vo zvo) 28) := ⟨_, rfl⟩
      rw [← hW5] at hn hs3 g4 ⊢
      have yw := wrA_block hn (vo_size _)
      clear hW5
      refine GX.branch1 15 (by kernel_rfl) ?_
      refine xOp_store rfl rfl rfl (stA W5 (.pointer (some ⟨w40.heap.size, 0, none⟩)) (.agg (vo ⟨s2, X.out⟩))) (by go_simp) (relE_tail (by kernel_rfl) (below_stA (Below.refl _ _) g3.size)) ?_
      simp only [Act.put]
      have HR : Hid (CutS w4 X (.pointer (some ⟨w40.heap.size, 0, none⟩)) (.int .i64 (KK : Int)) (.int .i64 (EE : Int)) (stA W5 (.pointer (some ⟨w40.heap.size, 0, none⟩)) (.agg (vo ⟨s2, X.out⟩)))) := ⟨_, s2, rfl, ⟨_, rfl⟩, ⟨_, rfl⟩, heap_putV hn (by rw [vo_size, vo_size]), slE_vo_put (by decide) hs3 hn, below_stA g4 g3.size⟩
      clear yw hn
      refine GX.take2 16 rfl rfl rfl (by kernel_rfl) (by kernel_rfl) (by kernel_rfl) rfl hwB ?_
      (first | go_big_quiet_step (fail) | quiet_step (fail)); refine wpQuiet_nil ?_
      refine GX.take2 17 rfl rfl rfl (by kernel_rfl) (by kernel_rfl) (by kernel_rfl) rfl hwB ?_
      (first | go_big_quiet_step (fail) | quiet_step (fail)); refine wpQuiet_nil ?_
      refine GX.nil (by kernel_rfl) ?_
      clear Q0 Q1 Q2 hwB
      go_wp2_with fail
      go_meet
      exact HR.out
    · refine xOp_eff rfl rfl rfl (.pointer (some ⟨w4.heap.size, 0, none⟩)) (w4.drew.alloc (.cells (vo zvo) 28)) (by go_simp) (relE_lq below1) ?_
      simp only [Act.put, List.setIfInBounds_toArray, List.set_cons_zero, List.set_cons_succ]
      have g0 : Below w4.heap.size w4 (w4.drew.alloc (.cells (vo zvo) 28)) := belowT (belowD (Below.refl _ _) 1) below1
      have hn0 : (w4.drew.alloc (.cells (vo zvo) 28)).heap[w4.heap.size]? = some (.cells (vo zvo) 28 (0, 0)) := heap_alloc_last w4.drew _
      obtain ⟨W5, hW5⟩ : ∃ W, W = (w4.drew.alloc (.cells (vo zvo) 28)) := ⟨_, rfl⟩
      rw [← hW5] at g0 hn0 ⊢
      clear hW5
      refine GX.branch1 9 (by kernel_rfl) ?_
      refine xOp_call rfl rfl rfl rfl enters_votePut14 #[.agg (vo ⟨⟨some ⟨b1, o1, none⟩, nv, cv⟩, v.out⟩), .int .i64 (j : Int), .agg (rc R), .int .u64 (ep.toNat : Int)] rfl ?_
      refine (HP.out _ (slE_keep g0 Av.out.s)).mono ?_
      rintro e w40 ⟨s2, rfl, hs2, g2⟩
      refine ⟨_, rfl, g2, ?_⟩
      simp only [Act.put, List.setIfInBounds_toArray, List.set_cons_zero, List.set_cons_succ]
      have hn := blk_keep g2 hn0
      have yw := wrA_block hn (vo_size _)
      refine GX.take2 10 rfl rfl rfl (by kernel_rfl) (by kernel_rfl) (by kernel_rfl) rfl hwB ?_
      (first | go_big_quiet_step (fail) | quiet_step (fail)); refine wpQuiet_nil ?_
      refine GX.take2 11 rfl rfl rfl (by kernel_rfl) (by kernel_rfl) (by kernel_rfl) rfl hwB ?_
      (first | go_big_quiet_step (fail) | quiet_step (fail)); refine wpQuiet_nil ?_
      refine GX.take2 12 rfl rfl rfl (by kernel_rfl) (by kernel_rfl) (by kernel_rfl) rfl hwB ?_
      (first | go_big_quiet_step (fail) | quiet_step (fail)); refine wpQuiet_nil ?_
      refine GX.take2 13 rfl rfl rfl (by kernel_rfl) (by kernel_rfl) (by kernel_rfl) rfl hwB ?_
      (first | go_big_quiet_step (fail) | quiet_step (fail)); refine wpQuiet_nil ?_
      refine GX.branch1 15 (by kernel_rfl) ?_
      refine xOp_store rfl rfl rfl (stA w40 (.pointer (some ⟨w4.heap.size, 0, none⟩)) (.agg (vo ⟨s2, X.out⟩))) (by go_simp) (relE_tail (by kernel_rfl) (below_stA (Below.refl _ _) (Nat.le_refl _))) ?_
      simp only [Act.put]
      have HR : Hid (CutS w4 X (.pointer (some ⟨w4.heap.size, 0, none⟩)) (.int .i64 (KK : Int)) (.int .i64 (EE : Int)) (stA w40 (.pointer (some ⟨w4.heap.size, 0, none⟩)) (.agg (vo ⟨s2, X.out⟩)))) := ⟨_, s2, rfl, ⟨_, rfl⟩, ⟨_, rfl⟩, heap_putV hn (by rw [vo_size, vo_size]), slE_vo_put (by decide) hs2 hn, below_stA (belowT g0 g2) (Nat.le_refl _)⟩
      clear yw hn
      refine GX.take2 16 rfl rfl rfl (by kernel_rfl) (by kernel_rfl) (by kernel_rfl) rfl hwB ?_
      (first | go_big_quiet_step (fail) | quiet_step (fail)); refine wpQuiet_nil ?_
      refine GX.take2 17 rfl rfl rfl (by kernel_rfl) (by kernel_rfl) (by kernel_rfl) rfl hwB ?_
      (first | go_big_quiet_step (fail) | quiet_step (fail)); refine wpQuiet_nil ?_
      refine GX.nil (by kernel_rfl) ?_
      clear Q0 Q1 Q2 hwB
      go_wp2_with fail
      go_meet
      exact HR.out
  case rest =>
    obtain ⟨T, s2, rfl, ⟨K, rfl⟩, ⟨K', rfl⟩, hT, hS, hb⟩ := hcut
    have S2 := Lib.hid hS
    have T2 := Lib.hid hT
    replace A := Lib.hid (A.out.keep hb)
    replace Av := Lib.hid (Av.out.keep hb)
    replace Kbal := Lib.hid (slE_keep hb Kbal.out)
    replace XV := Lib.hid (keepR hb XV.out)
    clear hT hS hb z1v z0v yr yh ye
    have z1t := A.out.z1
    have z1v := Av.out.z1
    have y2 := (vo_cells T2.out).2.2.1
    go_wp2_with fail
    refine (HF2.out _ s2 A.out.s Av.out.s S2.out Kbal.out).mono ?_
    rintro e w50 ⟨u5, u6, rfl, hs, ht, g⟩
    replace A := Lib.hid (A.out.keep g)
    replace Av := Lib.hid (Av.out.keep g)
    replace Kbal := Lib.hid (slE_keep g Kbal.out)
    have V1 := Lib.hid hs
    have V2 := Lib.hid ht
    replace XV := Lib.hid (keepR g XV.out)
    clear g hs ht z1t z1v y2
    have k7 : Hid (P.length ≤ 20) := by show _ ≤ 20; rw [Q3.out]; exact HNt.out
    go_wp2_with fail
    refine (HS.out _ _ _ _ V1.out V2.out k7.out).mono ?_
    rintro e w51 ⟨rfl, g⟩
    replace A := Lib.hid (A.out.keep g)
    replace Av := Lib.hid (Av.out.keep g)
    replace Kbal := Lib.hid (slE_keep g Kbal.out)
    replace V1 := Lib.hid (slE_keep g V1.out)
    replace XV := Lib.hid (keepR g XV.out)
    clear g V2
    have yr := lats_root XV.out (i := j) (by have := Lv.out; have := HJn.out; omega)
    rw [← HRe.out] at yr
    have z0v := Av.out.z0
    rw [sv_mk] at z0v
    go_wp2_with fail
    have L0 := fun p : Wd w51.drew => wd_tr A.out.box p
    have L1 := fun p : Wd w51.drew => wd_cell z0v p
    have L2 := fun p : Wd w51.drew => wd_ld yr (by decide) p
    clear yr z0v
    refine wp_region_lex [7] (by kernel_rfl) (by kernel_rfl) (by kernel_rfl) ?_
    repeat (first | (refine wpXL_quiet rfl rfl _ cls_begin ?_; (first | go_big_quiet_step (fail) | quiet_step (fail)); refine wpQuiet_nil ?_) | refine wpXL_skip rfl ?_)
    refine wpXL_call rfl rfl rfl enters_treeFind14 #[.agg (tr ⟨⟨pt, nt, ct⟩⟩), .agg (rc R)] rfl ?_
    refine (HF3.out _ (slE_keep (belowD (Below.refl _ _) 1) A.out.s)).mono ?_
    rintro e w52 ⟨rfl, g⟩
    refine ⟨_, rfl, g, ?_⟩
    simp only [Act.put, List.setIfInBounds_toArray, List.set_cons_zero, List.set_cons_succ]
    have G : Hid (Below w51.heap.size w51 w52) := belowT (belowD (Below.refl _ _) 1) g
    clear g
    repeat (first | (refine wpXL_quiet rfl rfl _ cls_begin ?_; (first | go_big_quiet_step (fail) | quiet_step (fail)); refine wpQuiet_nil ?_) | refine wpXL_skip rfl ?_)
    refine wpXL_nil ?_
    clear L0 L1 L2
    replace A := Lib.hid (A.out.keep G.out)
    replace Av := Lib.hid (Av.out.keep G.out)
    replace Kbal := Lib.hid (slE_keep G.out Kbal.out)
    replace V1 := Lib.hid (slE_keep G.out V1.out)
    clear G
    obtain ⟨pp, cp, rfl⟩ := slE_len V1.out Q3.out
    have z0t := A.out.z0
    rw [sv_mk] at z0t
    have e1 : ((nt : Int) == (nt : Int)) = true := by simp
    rcases Q4.out with q | ⟨k, q, hk, hx⟩
    · have t0 : decide (F < 0) = true := decide_eq_true q
      clear q
      go_wp2_with fail
      go_quiet (fail)
      go_wp2_with fail
      go_ret
      exact ⟨rfl, belowD A.out.g _⟩
    · subst q
      have t0 : decide ((k : Int) < 0) = false := decide_eq_false (by omega)
      have t1 : decide ((k : Int) < (nt : Int)) = true := decide_eq_true (by omega)
      have t1' : decide (k < nt) = true := decide_eq_true hk
      have k0 : (0 : Int) ≤ (k : Int) := by omega
      have k1 : (k : Int) < (nt : Int) := by omega
      have j1 : (j : Int) < (nbal : Int) := by have := Lbal.out; have := K4.out; have := HJn.out; omega
      obtain ⟨b5, o5, rfl, _, x5⟩ := nums_ptr V1.out (by have := Q3.out; omega)
      obtain ⟨b6, o6, rfl, _, x6⟩ := nums_ptr Kbal.out (by have := K4.out; have := HJn.out; omega)
      have y5 := nums_cell x5 (i := k) (by have := Q3.out; omega)
      have y6 := nums_cell x6 (i := j) (by have := K4.out; have := HJn.out; omega)
      rw [hx] at y5
      generalize fn bal j = y at *
      have e2 : ((y : Int) == (y : Int)) = true := by simp
      clear hk hx x5 x6
      go_wp2_with fail
      go_quiet (fail)
      go_wp2_with fail
      go_ret
      exact ⟨rfl, belowD A.out.g _⟩
/-- The law. -/
theorem deltaSameL (H : DeltaC) (H' : BesideC) (tt : Tr) (l : List Nd) (tv : SlV) (v : Vt) (vbal : Value) (bal : List UInt64) (i : Int) (ep : UInt64) (w : World) (ht : SlE Ene w (sv tt.n) l) (hv : SlE Elt w (sv tv) v.l) (hbal : SlE Enum w vbal bal) :
    Calls Try.prog 6 #[.agg (tr tt), .agg (vo ⟨tv, v.out⟩), vbal, .int .i64 i, .int .u64 (ep.toNat : Int)] w fun e w' => e = .returned (.bool true) ∧ Below w.heap.size w w' := by
  obtain ⟨⟨pt, nt, ct⟩⟩ := tt
  have lt := sv_lenN ht
  dsimp only at lt
  have lv := sv_lenT hv
  obtain ⟨pv, nv, cv⟩ := tv
  dsimp only at lv
  have kbal := hbal
  obtain ⟨pbal, cbal, rfl, _⟩ := slE_shape hbal
  exact deltaSame_n H H' pt _ ct l pv _ cv v pbal _ cbal bal i ep w ht lt hv lv kbal rfl
end Go.Proofs.Ytccihllcohnnnaa
