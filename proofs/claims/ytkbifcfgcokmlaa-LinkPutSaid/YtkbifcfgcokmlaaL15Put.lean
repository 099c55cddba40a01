/-
  The law LinkPut, walked. (written by wip/gen/law15.py)
-/
import Derived.Test.YtkbifcfgcokmlaaQ19
import Derived.Deep.Cut
import Derived.Deep.CutRange
import Derived.Deep.RegionLaw
namespace Go.Proofs.Ytkbifcfgcokmlaa
open Go.RowKit
set_option maxRecDepth 100000

theorem enters_stakeBit15 : ∀ args w, (callFunc 22 args).run Try.prog w = .ok (.enter 22 args) w := entersE Try.func22 (by kernel_rfl) (by kernel_rfl)

set_option maxRecDepth 100000 in
set_option maxHeartbeats 16000000 in
theorem linkPut_n (H : LinkC) (HB : ∀ (v : Int) (w : World), Calls Try.prog 22 #[.int .i64 v] w fun e w' => e = .returned (.int .u64 (bitN v : Int)) ∧ Below w.heap.size w w') (pl : Option Addr) (nl cl : Nat) (l : List Lk) (s : Ck) (t : Ck) (val : Int) (w : World) (hl : SlE Elk w (.slice pl nl cl) l) (ll : l.length = nl) :
    Calls Try.prog 4 #[.slice pl nl cl, .agg (cc s), .agg (cc t), .int .i64 val] w fun e w' => e = .returned (.bool true) ∧ Below w.heap.size w w' := by
  obtain ⟨W0, hW0⟩ : ∃ W0, W0 = ((w.alloc (.cells (cc s) 27)).alloc (.cells (cc t) 27)) := ⟨_, rfl⟩
  obtain ⟨hB, b0, b1, _⟩ := heap2 w _ _ _ _ W0 hW0
  have Ms : Hid (W0.heap[w.heap.size]? = some (.cells (cc s) 27 (0, 0))) := b0
  have Mt : Hid (W0.heap[w.heap.size + 1]? = some (.cells (cc t) 27 (0, 0))) := b1
  have A0 : Hid (Below w.heap.size w W0) := hB
  have HW := Lib.hid hW0
  have Kl := Lib.hid (slE_keep hB hl)
  have Ll := Lib.hid ll
  have HAw := Lib.hid (fun W => awake_any15 H W)
  have HH := Lib.hid H
  have HBt := Lib.hid HB
  clear HB
  clear H hW0 hB b0 b1 hl ll
  go_enter Try.func4, Try.ntmps4
  go_upto_region 1 with fail
  rw [← HW.out]
  go_wp2_with fail
  refine (HAw.out _).mono ?_
  rintro e w1 ⟨rfl, g⟩
  replace Ms := Lib.hid (blk_keep g Ms.out)
  replace Mt := Lib.hid (blk_keep g Mt.out)
  replace A0 := Lib.hid (belowT A0.out g)
  replace Kl := Lib.hid (slE_keep g Kl.out)
  clear g
  have HM := Lib.hid (fun u W (h : SlE Elk W u l) => HH.out.may u l W h)
  obtain ⟨my, hmy⟩ : ∃ b, b = mayL l := ⟨_, rfl⟩
  rw [← hmy] at HM
  have HMy := Lib.hid hmy
  clear hmy
  go_wp2_with fail
  refine (HM.out _ _ Kl.out).mono ?_
  rintro e w2 ⟨rfl, g⟩
  replace Ms := Lib.hid (blk_keep g Ms.out)
  replace Mt := Lib.hid (blk_keep g Mt.out)
  replace A0 := Lib.hid (belowT A0.out g)
  replace Kl := Lib.hid (slE_keep g Kl.out)
  clear g
  cases my
  · skip
    go_wp2_with fail
    go_ret
    exact ⟨rfl, A0.out⟩
  have HN : Hid (nl ≤ 16) := by show _ ≤ _; have := (mayL_iff.1 HMy.out.symm).2; have := Ll.out; omega
  have hl : l.length ≤ 1000 := by have := Ll.out; have := HN.out; omega
  have HP := Lib.hid (fun u W (h : SlE Elk W u l) => HH.out.put u l s t val W h hl)
  have hml : (putK l s t val).length ≤ 1000 := by have := put_lenK (l := l) (s := s) (t := t) (v := val); have := Ll.out; have := HN.out; omega
  have HSa : Hid (putK l s t val = l → ∀ u v W, SlE Elk W u (putK l s t val) → SlE Elk W v l → Calls Try.prog 17 #[u, v] W fun e w' => e = .returned (.bool true) ∧ Below W.heap.size W w') := fun e u v W h h' => by
    have k := HH.out.same u v _ _ W h h' hml hl
    rwa [decide_eq_true e] at k
  have HErr : Hid (errK l s t val ≠ 0 → putK l s t val = l) := fun e => put_err e
  have HLaw : Hid (errK l s t val = 0 → _) := fun e => law_put (l := l) (s := s) (t := t) (v := val) e
  have HS2 := Lib.hid (fun u v W (h : SlE Elk W u (putK l s t val)) (h' : SlE Elk W v (putK l s t val)) => HH.out.same u v _ _ W h h' hml hml)
  rw [decide_eq_true rfl] at HS2
  have HP2 := Lib.hid (fun u W (h : SlE Elk W u (putK l s t val)) => HH.out.put u (putK l s t val) s t val W h hml)
  have HM2 := Lib.hid (fun u W (h : SlE Elk W u (putK l s t val)) => HH.out.may u (putK l s t val) W h)
  have HW1 := Lib.hid (fun u W (h : SlE Elk W u l) => HH.out.who u l s t W h hl)
  have HW2 := Lib.hid (fun u W (h : SlE Elk W u (putK l s t val)) => HH.out.who u (putK l s t val) s t W h hml)
  have HB2 : Hid (∀ W, Calls Try.prog 22 #[.int .i64 val] W fun e w' => e = .returned (.int .u64 ((bitK val).toNat : Int)) ∧ Below W.heap.size W w') := fun W => by rw [bitK_nat]; exact HBt.out val W
  have HPl : Hid ((putK l s t val).length ≤ nl + 1) := by show _ ≤ _; have := put_lenK (l := l) (s := s) (t := t) (v := val); have := Ll.out; omega
  obtain ⟨er, her⟩ : ∃ e, e = errK l s t val := ⟨_, rfl⟩
  rw [← her] at HP HErr HLaw
  clear hl hml her HBt
  have zs := (ck_v Ms.out).a
  have zt := (ck_v Mt.out).a
  go_wp2_with fail
  refine (HP.out _ _ Kl.out).mono ?_
  rintro e w3 ⟨v1, rfl, hv, g⟩
  replace Ms := Lib.hid (blk_keep g Ms.out)
  replace Mt := Lib.hid (blk_keep g Mt.out)
  replace A0 := Lib.hid (belowT A0.out g)
  replace Kl := Lib.hid (slE_keep g Kl.out)
  have U1 := Lib.hid hv
  clear hv
  clear g zs zt
  by_cases he : er = 0
  rotate_left
  · have e1 : ((er : Int) != 0) = true := by rw [bne_iff_ne]; omega
    have e1' : (er != 0) = true := by rw [bne_iff_ne]; exact he
    have HSb := Lib.hid (HSa.out (HErr.out he))
    clear he
    go_wp2_with fail
    refine (HSb.out _ _ _ U1.out Kl.out).mono ?_
    rintro e w4 ⟨rfl, g⟩
    replace Ms := Lib.hid (blk_keep g Ms.out)
    replace Mt := Lib.hid (blk_keep g Mt.out)
    replace A0 := Lib.hid (belowT A0.out g)
    replace Kl := Lib.hid (slE_keep g Kl.out)
    replace U1 := Lib.hid (slE_keep g U1.out)
    clear g
    go_wp2_with fail
    go_ret
    exact ⟨rfl, A0.out⟩
  subst he
  obtain ⟨q1, q2, q3, q4, q5⟩ := HLaw.out rfl
  rw [q3, q4] at HP2
  rw [q2] at HM2
  have Q1 := Lib.hid q1
  have Q5 := Lib.hid q5
  clear HSa HErr HLaw q1 q2 q3 q4 q5
  obtain ⟨m, hm⟩ : ∃ m, m = (putK l s t val).length := ⟨_, rfl⟩
  have Hm := Lib.hid hm.symm
  rw [← hm] at HPl Q1
  obtain ⟨p1, c1, rfl⟩ := slE_len U1.out hm.symm
  clear hm
  rw [Q5.out] at HW2
  generalize putK l s t val = X at *
  have zs := (ck_v Ms.out).a
  have zt := (ck_v Mt.out).a
  go_wp2_with fail
  refine (HP2.out _ _ U1.out).mono ?_
  rintro e w4 ⟨v2, rfl, hv, g⟩
  replace Ms := Lib.hid (blk_keep g Ms.out)
  replace Mt := Lib.hid (blk_keep g Mt.out)
  replace A0 := Lib.hid (belowT A0.out g)
  replace Kl := Lib.hid (slE_keep g Kl.out)
  replace U1 := Lib.hid (slE_keep g U1.out)
  have U2 := Lib.hid hv
  clear hv
  clear g zs zt
  go_wp2_with fail
  go_loopw [14] (fun i wr => ∃ j : Nat, j ≤ nl ∧ i = .int .i64 (j : Int) ∧ Below w4.heap.size w4 wr) (fun i _ => nl - (intOf i).toNat)
  case atStart => exact ⟨0, Nat.zero_le _, rfl, Below.refl _ _⟩
  case round =>
    obtain ⟨j, hj, rfl, hb⟩ := hrel
    have HB := Lib.hid hb
    clear hb
    by_cases hlt : j < nl
    · obtain ⟨r1, r2, r3, r4, r5⟩ := Q1.out j (by rw [Ll.out]; exact hlt)
      have i0 : (0 : Int) ≤ (j : Int) := by omega
      have i1 : (j : Int) < (nl : Int) := by omega
      have i2 : (j : Int) < (m : Int) := by omega
      have u1 : (j : Int) + 1 < 10000 := by have := HN.out; omega
      have d0 : decide ((j : Int) < (nl : Int)) = true := decide_eq_true i1
      have d0' : decide (j < nl) = true := decide_eq_true hlt
      have d1 : decide ((m : Int) ≤ (j : Int)) = false := decide_eq_false (by omega)
      have d1' : decide (m ≤ j) = false := decide_eq_false (by omega)
      have HLT := Lib.hid hlt
      obtain ⟨b1, o1, rfl, _, x1⟩ := lks_ptr (slE_keep HB.out Kl.out) (by have := Ll.out; omega)
      obtain ⟨b2, o2, rfl, _, x2⟩ := lks_ptr (slE_keep HB.out U1.out) (by have := Hm.out; omega)
      have X1 := Lib.hid x1
      have X2 := Lib.hid x2
      have y1 := lks_s x1 (i := j) (by have := Ll.out; omega)
      have y2 := lks_t x1 (i := j) (by have := Ll.out; omega)
      have zs := (ck_v (blk_keep HB.out Ms.out)).a
      have zt := (ck_v (blk_keep HB.out Mt.out)).a
      have HK : Hid (isK s t (lkAt l j) = (decide ((lkAt l j).s = s) && decide ((lkAt l j).t = t))) := by show _ = _; unfold isK; rw [Bool.eq_iff_iff]; simp
      have HY : Hid (∀ W, Below wr.heap.size wr W → ldA W (.pointer (some ⟨b1, o1 + j * 67, none⟩)) 33 = some (cc (lkAt l j).s) ∧ ldA W (.pointer (some ⟨b1, o1 + j * 67 + 33, none⟩)) 33 = some (cc (lkAt l j).t) ∧ ldA W (.pointer (some ⟨b2, o2 + j * 67, none⟩)) 33 = some (cc (lkAt l j).s) ∧ ldA W (.pointer (some ⟨b2, o2 + j * 67 + 33, none⟩)) 33 = some (cc (lkAt l j).t) ∧ W.cell? ⟨b1, o1 + j * 67 + 66, none⟩ = some (.int .u64 ((lkAt l j).mask.toNat : Int)) ∧ W.cell? ⟨b2, o2 + j * 67 + 66, none⟩ = some (.int .u64 ((lkAt X j).mask.toNat : Int))) := fun W g => by
        have k1 := keepR g X1.out
        have k2 := keepR g X2.out
        have hjl : j < l.length := by have := Ll.out; have := HLT.out; omega
        have hjx : j < X.length := by have := Hm.out; omega
        exact ⟨lks_s k1 hjl, lks_t k1 hjl, by rw [← r2]; exact lks_s k2 hjx, by rw [← r3]; exact lks_t k2 hjx, lks_mask k1 hjl, lks_mask k2 hjx⟩
      have R4 := Lib.hid r4
      have R5 := Lib.hid r5
      obtain ⟨OW, hOW⟩ : ∃ b, b = isK s t (lkAt l j) := ⟨_, rfl⟩
      rw [← hOW] at HK R4 R5
      obtain ⟨E1, hE1⟩ : ∃ E, E = decide ((lkAt l j).s = s) := ⟨_, rfl⟩
      obtain ⟨E2, hE2⟩ : ∃ E, E = decide ((lkAt l j).t = t) := ⟨_, rfl⟩
      rw [← hE1, ← hE2] at HK
      have t1 := hE1.symm
      have t2 := hE2.symm
      have HX := Lib.hid (fun (e : OW = true) => R5.out e)
      have a1 := k_or (lkAt l j).mask (bitK val)
      obtain ⟨Z, hZ⟩ : ∃ z, z = (lkAt l j).mask ||| bitK val := ⟨_, rfl⟩
      rw [← hZ] at R5 a1
      generalize (lkAt X j).mask = MX at *
      generalize (lkAt l j).mask = ML at *
      generalize (lkAt l j).s = LS at *
      generalize (lkAt l j).t = LT at *
      have nS : (decide (LS = LS)) = true := decide_eq_true rfl
      have nT : (decide (LT = LT)) = true := decide_eq_true rfl
      clear hlt x1 x2 r1 r2 r3 r4 r5 hOW hE1 hE2 hZ HX
      have key : ∀ (b : Bool), (E1 && E2) = b → OW = b := fun b e => by rw [HK.out, e]
      cases E1
      · have how : Hid (OW = false) := key _ rfl
        have hmx : MX = ML := R4.out how.out
        subst hmx
        clear key
        go_wp2_with fail
        go_quiet (fail)
        obtain ⟨v1, hv1⟩ : ∃ v, v = wr.drewN nq := ⟨_, rfl⟩
        have D1 : Hid (Below wr.heap.size wr v1) := by show Below _ _ _; rw [hv1]; exact belowD (Below.refl _ _) _
        rw [← hv1]
        obtain ⟨k1, k2, k3, k4, k5, k6⟩ := HY.out v1 D1.out
        clear hv1 y1 y2 zs zt
        go_wp2_with fail
        have L0 := fun p : Wd v1.drew => wd_ld k1 (by decide) p
        have L1 := fun p : Wd v1.drew => wd_ld k2 (by decide) p
        have L2 := fun p : Wd v1.drew => wd_ld k3 (by decide) p
        have L3 := fun p : Wd v1.drew => wd_ld k4 (by decide) p
        have L4 := fun p : Wd v1.drew => wd_cell k5 p
        have L5 := fun p : Wd v1.drew => wd_cell k6 p
        clear k1 k2 k3 k4 k5 k6
        simp only [List.cons_append, List.nil_append, List.append_eq]
        refine wp_region_lex [61] (by kernel_rfl) (by kernel_rfl) (by kernel_rfl) ?_
        repeat (first | (refine wpXL_quiet rfl rfl _ cls_begin ?_; (first | go_big_quiet_step (fail) | quiet_step (fail)); refine wpQuiet_nil ?_) | refine wpXL_skip rfl ?_)
        refine wpXL_nil ?_
        clear L0 L1 L2 L3 L4 L5
        go_wp2_with fail
        go_roundw
        case rel => exact ⟨j + 1, HLT.out, by go_num, belowD (belowT HB.out D1.out) 1⟩
        case measure => simp [intOf]; have := HLT.out; omega
      · cases E2
        · have how : Hid (OW = false) := key _ rfl
          have hmx : MX = ML := R4.out how.out
          subst hmx
          clear key
          go_wp2_with fail
          go_quiet (fail)
          obtain ⟨v1, hv1⟩ : ∃ v, v = wr.drewN nq := ⟨_, rfl⟩
          have D1 : Hid (Below wr.heap.size wr v1) := by show Below _ _ _; rw [hv1]; exact belowD (Below.refl _ _) _
          rw [← hv1]
          obtain ⟨k1, k2, k3, k4, k5, k6⟩ := HY.out v1 D1.out
          clear hv1 y1 y2 zs zt
          go_wp2_with fail
          have L0 := fun p : Wd v1.drew => wd_ld k1 (by decide) p
          have L1 := fun p : Wd v1.drew => wd_ld k2 (by decide) p
          have L2 := fun p : Wd v1.drew => wd_ld k3 (by decide) p
          have L3 := fun p : Wd v1.drew => wd_ld k4 (by decide) p
          have L4 := fun p : Wd v1.drew => wd_cell k5 p
          have L5 := fun p : Wd v1.drew => wd_cell k6 p
          clear k1 k2 k3 k4 k5 k6
          simp only [List.cons_append, List.nil_append, List.append_eq]
          refine wp_region_lex [61] (by kernel_rfl) (by kernel_rfl) (by kernel_rfl) ?_
          repeat (first | (refine wpXL_quiet rfl rfl _ cls_begin ?_; (first | go_big_quiet_step (fail) | quiet_step (fail)); refine wpQuiet_nil ?_) | refine wpXL_skip rfl ?_)
          refine wpXL_nil ?_
          clear L0 L1 L2 L3 L4 L5
          go_wp2_with fail
          go_roundw
          case rel => exact ⟨j + 1, HLT.out, by go_num, belowD (belowT HB.out D1.out) 1⟩
          case measure => simp [intOf]; have := HLT.out; omega
        · have how : Hid (OW = true) := key _ rfl
          have hmx : MX = Z := R5.out how.out
          subst hmx
          clear key
          go_wp2_with fail
          go_quiet (fail)
          obtain ⟨v1, hv1⟩ : ∃ v, v = wr.drewN nq := ⟨_, rfl⟩
          have D1 : Hid (Below wr.heap.size wr v1) := by show Below _ _ _; rw [hv1]; exact belowD (Below.refl _ _) _
          rw [← hv1]
          obtain ⟨k1, k2, k3, k4, k5, k6⟩ := HY.out v1 D1.out
          clear hv1 y1 y2 zs zt
          go_wp2_with fail
          have L0 := fun p : Wd v1.drew => wd_ld k1 (by decide) p
          have L1 := fun p : Wd v1.drew => wd_ld k2 (by decide) p
          have L2 := fun p : Wd v1.drew => wd_ld k3 (by decide) p
          have L3 := fun p : Wd v1.drew => wd_ld k4 (by decide) p
          have L4 := fun p : Wd v1.drew => wd_cell k5 p
          have L5 := fun p : Wd v1.drew => wd_cell k6 p
          clear k1 k2 k3 k4 k5 k6
          simp only [List.cons_append, List.nil_append, List.append_eq]
          refine wp_region_lex [61] (by kernel_rfl) (by kernel_rfl) (by kernel_rfl) ?_
          repeat (first | (refine wpXL_quiet rfl rfl _ cls_begin ?_; (first | go_big_quiet_step (fail) | quiet_step (fail)); refine wpQuiet_nil ?_) | refine wpXL_skip rfl ?_)
          refine wpXL_call rfl rfl rfl enters_stakeBit15 #[.int .i64 val] rfl ?_
          refine (HB2.out _).mono ?_
          rintro e u ⟨rfl, g⟩
          refine ⟨_, rfl, g, ?_⟩
          simp only [Act.put, List.setIfInBounds_toArray, List.set_cons_zero, List.set_cons_succ]
          have G : Hid (Below wr.heap.size wr u) := belowT D1.out (belowT (belowD (Below.refl _ _) 1) g)
          clear g
          repeat (first | (refine wpXL_quiet rfl rfl _ cls_begin ?_; (first | go_big_quiet_step (fail) | quiet_step (fail)); refine wpQuiet_nil ?_) | refine wpXL_skip rfl ?_)
          refine wpXL_nil ?_
          clear L0 L1 L2 L3 L4 L5
          go_wp2_with fail
          go_roundw
          case rel => exact ⟨j + 1, HLT.out, by go_num, belowT HB.out G.out⟩
          case measure => simp [intOf]; have := HLT.out; omega
    · obtain rfl : j = nl := by omega
      have d0 : decide ((j : Int) < (j : Int)) = false := decide_eq_false (Int.lt_irrefl _)
      have d0' : decide (j < j) = false := decide_eq_false (Nat.lt_irrefl _)
      have A1 := Lib.hid (belowT A0.out HB.out)
      have K1 := Lib.hid (slE_keep HB.out Kl.out)
      have V1 := Lib.hid (slE_keep HB.out U1.out)
      have V2 := Lib.hid (slE_keep HB.out U2.out)
      have M1 := Lib.hid (blk_keep HB.out Ms.out)
      have M2 := Lib.hid (blk_keep HB.out Mt.out)
      have a2 := k_or (whoK l s t) (bitK val)
      generalize (whoK l s t ||| bitK val).toNat = WZ at *
      generalize (whoK l s t).toNat = WH at *
      generalize (bitK val).toNat = BT at *
      have e1 : ((WZ : Int) == (WZ : Int)) = true := by simp
      have u9 : (j : Int) + 1 < 10000 := by have := HN.out; omega
      have e2 : decide ((m : Int) ≤ (j : Int) + 1) = true := decide_eq_true (by have := HPl.out; omega)
      have e2' : decide (m ≤ j + 1) = true := decide_eq_true HPl.out
      clear hlt A0 Kl U1 U2 Ms Mt
      have zs := (ck_v M1.out).a
      have zt := (ck_v M2.out).a
      go_wp2_with fail
      refine (HW1.out _ _ K1.out).mono ?_
      rintro e x1 ⟨rfl, g⟩
      replace A1 := Lib.hid (belowT A1.out g)
      replace V1 := Lib.hid (slE_keep g V1.out)
      replace V2 := Lib.hid (slE_keep g V2.out)
      replace M1 := Lib.hid (blk_keep g M1.out)
      replace M2 := Lib.hid (blk_keep g M2.out)
      clear g zs zt
      go_wp2_with fail
      refine (HS2.out _ _ _ V2.out V1.out).mono ?_
      rintro e x2 ⟨rfl, g⟩
      replace A1 := Lib.hid (belowT A1.out g)
      replace V1 := Lib.hid (slE_keep g V1.out)
      replace M1 := Lib.hid (blk_keep g M1.out)
      replace M2 := Lib.hid (blk_keep g M2.out)
      clear g
      go_wp2_with fail
      refine (HM2.out _ _ V1.out).mono ?_
      rintro e x3 ⟨rfl, g⟩
      replace A1 := Lib.hid (belowT A1.out g)
      replace V1 := Lib.hid (slE_keep g V1.out)
      replace M1 := Lib.hid (blk_keep g M1.out)
      replace M2 := Lib.hid (blk_keep g M2.out)
      clear g
      have zs := (ck_v M1.out).a
      have zt := (ck_v M2.out).a
      go_wp2_with fail
      refine (HW2.out _ _ V1.out).mono ?_
      rintro e x4 ⟨rfl, g⟩
      replace A1 := Lib.hid (belowT A1.out g)
      clear g zs zt
      go_wp2_with fail
      refine (HB2.out _).mono ?_
      rintro e x5 ⟨rfl, g⟩
      replace A1 := Lib.hid (belowT A1.out g)
      clear g
      go_wp2_with fail
      go_ret
      exact ⟨rfl, A1.out⟩
/-- The law. -/
theorem linkPutL (H : LinkC) (HB : ∀ (v : Int) (w : World), Calls Try.prog 22 #[.int .i64 v] w fun e w' => e = .returned (.int .u64 (bitN v : Int)) ∧ Below w.heap.size w w') (vl : Value) (l : List Lk) (s : Ck) (t : Ck) (val : Int) (w : World) (hl : SlE Elk w vl l) :
    Calls Try.prog 4 #[vl, .agg (cc s), .agg (cc t), .int .i64 val] w fun e w' => e = .returned (.bool true) ∧ Below w.heap.size w w' := by
  have kl := hl
  obtain ⟨pl, cl, rfl, _⟩ := slE_shape hl
  exact linkPut_n H HB pl _ cl l s t val w kl rfl
end Go.Proofs.Ytkbifcfgcokmlaa
