/-
  The law LinkTells, walked. (written by wip/gen/law15.py)
-/
import Derived.Test.YtkbifcfgcokmlaaQ19
import Derived.Deep.Cut
import Derived.Deep.CutRange
import Derived.Deep.RegionLaw
namespace Go.Proofs.Ytkbifcfgcokmlaa
open Go.RowKit
set_option maxRecDepth 100000

set_option maxRecDepth 100000 in
set_option maxHeartbeats 16000000 in
theorem linkTells_n (H : LinkC)  (pl : Option Addr) (nl cl : Nat) (l : List Lk) (pk : Option Addr) (nk ck : Nat) (k : List Lk) (s : Ck) (t : Ck) (val : Int) (w : World) (hl : SlE Elk w (.slice pl nl cl) l) (ll : l.length = nl) (hk : SlE Elk w (.slice pk nk ck) k) (lk : k.length = nk) :
    Calls Try.prog 3 #[.slice pl nl cl, .slice pk nk ck, .agg (cc s), .agg (cc t), .int .i64 val] w fun e w' => e = .returned (.bool true) ∧ Below w.heap.size w w' := by
  obtain ⟨W0, hW0⟩ : ∃ W0, W0 = ((w.alloc (.cells (cc s) 27)).alloc (.cells (cc t) 27)) := ⟨_, rfl⟩
  obtain ⟨hB, b0, b1, _⟩ := heap2 w _ _ _ _ W0 hW0
  have Ms : Hid (W0.heap[w.heap.size]? = some (.cells (cc s) 27 (0, 0))) := b0
  have Mt : Hid (W0.heap[w.heap.size + 1]? = some (.cells (cc t) 27 (0, 0))) := b1
  have A0 : Hid (Below w.heap.size w W0) := hB
  have HW := Lib.hid hW0
  have Kl := Lib.hid (slE_keep hB hl)
  have Ll := Lib.hid ll
  have Kk := Lib.hid (slE_keep hB hk)
  have Lk := Lib.hid lk
  have HAw := Lib.hid (fun W => awake_any15 H W)
  have HH := Lib.hid H
  clear H hW0 hB b0 b1 hl ll hk lk
  go_enter Try.func3, Try.ntmps3
  go_upto_region 1 with fail
  rw [← HW.out]
  go_wp2_with fail
  refine (HAw.out _).mono ?_
  rintro e w1 ⟨rfl, g⟩
  replace Ms := Lib.hid (blk_keep g Ms.out)
  replace Mt := Lib.hid (blk_keep g Mt.out)
  replace A0 := Lib.hid (belowT A0.out g)
  replace Kl := Lib.hid (slE_keep g Kl.out)
  replace Kk := Lib.hid (slE_keep g Kk.out)
  clear g
  by_cases h1 : 40 < nl
  · have h1i : decide ((40 : Int) < (nl : Int)) = true := decide_eq_true (by omega)
    have h1i' : decide (40 < nl) = true := decide_eq_true (by omega)
    clear h1
    go_wp2_with fail
    go_ret
    exact ⟨rfl, A0.out⟩
  have h1i : decide ((40 : Int) < (nl : Int)) = false := decide_eq_false (by omega)
  have h1i' : decide (40 < nl) = false := decide_eq_false (by omega)
  by_cases h2 : 40 < nk
  · have h2i : decide ((40 : Int) < (nk : Int)) = true := decide_eq_true (by omega)
    have h2i' : decide (40 < nk) = true := decide_eq_true (by omega)
    clear h2
    go_wp2_with fail
    go_ret
    exact ⟨rfl, A0.out⟩
  have h2i : decide ((40 : Int) < (nk : Int)) = false := decide_eq_false (by omega)
  have h2i' : decide (40 < nk) = false := decide_eq_false (by omega)
  have hl : l.length ≤ 1000 := by have := Ll.out; omega
  have hk : k.length ≤ 1000 := by have := Lk.out; omega
  have HN : Hid (nl ≤ 40 ∧ nk ≤ 40) := by show _ ∧ _; omega
  have HP1 := Lib.hid (fun u W (h : SlE Elk W u l) => HH.out.put u l s t val W h hl)
  have HP2 := Lib.hid (fun u W (h : SlE Elk W u l) => ref15Put u l s t val W h hl)
  have HPl : (putK l s t val).length ≤ 1000 := by have := put_lenK (l := l) (s := s) (t := t) (v := val); have := Ll.out; omega
  have HS0 := Lib.hid (fun u v W (h : SlE Elk W u (putK l s t val)) (h' : SlE Elk W v (putK l s t val)) => ref15Same u v _ _ W h h' HPl)
  rw [decide_eq_true rfl] at HS0
  have HM1 := Lib.hid (fun u W (h : SlE Elk W u l) => HH.out.may u l W h)
  have HM2 := Lib.hid (fun u W (h : SlE Elk W u l) => ref15May u l W h hl)
  have HS1 := Lib.hid (fun u v W (h : SlE Elk W u l) (h' : SlE Elk W v k) => HH.out.same u v l k W h h' hl hk)
  have HS2 := Lib.hid (fun u v W (h : SlE Elk W u l) (h' : SlE Elk W v k) => ref15Same u v l k W h h' hl)
  have HW1 := Lib.hid (fun u W (h : SlE Elk W u l) => HH.out.who u l s t W h hl)
  have HW2 := Lib.hid (fun u W (h : SlE Elk W u l) => ref15Who u l s t W h hl)
  have HG1 := Lib.hid (fun u W (h : SlE Elk W u l) => HH.out.guilty u l W h hl)
  have HG2 := Lib.hid (fun u W (h : SlE Elk W u l) => ref15Guilty u l W h hl)
  have HC1 := Lib.hid (fun a b W => HH.out.clash a b W)
  have HC2 := Lib.hid (fun a b W => ref15Clash a b W)
  generalize putK l s t val = PP at *
  generalize errK l s t val = ER at *
  generalize mayL l = MY at *
  obtain ⟨SM, hSM⟩ : ∃ b, b = decide (l = k) := ⟨_, rfl⟩
  rw [← hSM] at HS1 HS2
  generalize (whoK l s t).toNat = WH at *
  generalize (guiltT l).toNat = GT at *
  clear hl hk h1 h2 HPl hSM
  have zs := (ck_v Ms.out).a
  have zt := (ck_v Mt.out).a
  go_wp2_with fail
  refine (HP1.out _ _ Kl.out).mono ?_
  rintro e w2 ⟨v1, rfl, hv, g⟩
  replace Ms := Lib.hid (blk_keep g Ms.out)
  replace Mt := Lib.hid (blk_keep g Mt.out)
  replace A0 := Lib.hid (belowT A0.out g)
  replace Kl := Lib.hid (slE_keep g Kl.out)
  replace Kk := Lib.hid (slE_keep g Kk.out)
  have U1 := Lib.hid hv
  clear hv
  clear g zs zt
  have zs := (ck_v Ms.out).a
  have zt := (ck_v Mt.out).a
  go_wp2_with fail
  refine (HP2.out _ _ Kl.out).mono ?_
  rintro e w3 ⟨v2, rfl, hv, g⟩
  replace Ms := Lib.hid (blk_keep g Ms.out)
  replace Mt := Lib.hid (blk_keep g Mt.out)
  replace A0 := Lib.hid (belowT A0.out g)
  replace Kl := Lib.hid (slE_keep g Kl.out)
  replace Kk := Lib.hid (slE_keep g Kk.out)
  replace U1 := Lib.hid (slE_keep g U1.out)
  have U2 := Lib.hid hv
  clear hv
  clear g zs zt
  go_wp2_with fail
  refine (HS0.out _ _ _ U1.out U2.out).mono ?_
  rintro e w4 ⟨rfl, g⟩
  replace Ms := Lib.hid (blk_keep g Ms.out)
  replace Mt := Lib.hid (blk_keep g Mt.out)
  replace A0 := Lib.hid (belowT A0.out g)
  replace Kl := Lib.hid (slE_keep g Kl.out)
  replace Kk := Lib.hid (slE_keep g Kk.out)
  replace U1 := Lib.hid (slE_keep g U1.out)
  replace U2 := Lib.hid (slE_keep g U2.out)
  clear g
  clear U1 U2
  go_wp2_with fail
  refine (HM2.out _ _ Kl.out).mono ?_
  rintro e w5 ⟨rfl, g⟩
  replace Ms := Lib.hid (blk_keep g Ms.out)
  replace Mt := Lib.hid (blk_keep g Mt.out)
  replace A0 := Lib.hid (belowT A0.out g)
  replace Kl := Lib.hid (slE_keep g Kl.out)
  replace Kk := Lib.hid (slE_keep g Kk.out)
  clear g
  go_wp2_with fail
  refine (HS2.out _ _ _ Kl.out Kk.out).mono ?_
  rintro e w6 ⟨rfl, g⟩
  replace Ms := Lib.hid (blk_keep g Ms.out)
  replace Mt := Lib.hid (blk_keep g Mt.out)
  replace A0 := Lib.hid (belowT A0.out g)
  replace Kl := Lib.hid (slE_keep g Kl.out)
  replace Kk := Lib.hid (slE_keep g Kk.out)
  clear g
  go_wp2_with fail
  go_loopw [19] (fun i wr => ∃ j : Nat, j ≤ nl ∧ j ≤ nk ∧ i = .int .i64 (j : Int) ∧ Below w6.heap.size w6 wr) (fun i _ => nl - (intOf i).toNat)
  case atStart => exact ⟨0, Nat.zero_le _, Nat.zero_le _, rfl, Below.refl _ _⟩
  case round =>
    obtain ⟨j, hj, hj2, rfl, hb⟩ := hrel
    have HB := Lib.hid hb
    clear hb
    by_cases hlt : j < nl ∧ j < nk
    · obtain ⟨h1, h2⟩ := hlt
      have i0 : (0 : Int) ≤ (j : Int) := by omega
      have i1 : (j : Int) < (nl : Int) := by omega
      have i2 : (j : Int) < (nk : Int) := by omega
      have u1 : (j : Int) + 1 < 10000 := by have := HN.out; omega
      have d0 : decide ((j : Int) < (nl : Int)) = true := decide_eq_true i1
      have d0' : decide (j < nl) = true := decide_eq_true h1
      have d1 : decide ((j : Int) < (nk : Int)) = true := decide_eq_true i2
      have d1' : decide (j < nk) = true := decide_eq_true h2
      have HLT : Hid (j < nl ∧ j < nk) := ⟨h1, h2⟩
      obtain ⟨b1, o1, rfl, _, x1⟩ := lks_ptr (slE_keep HB.out Kl.out) (by have := Ll.out; omega)
      obtain ⟨b2, o2, rfl, _, x2⟩ := lks_ptr (slE_keep HB.out Kk.out) (by have := Lk.out; omega)
      have Y1 : Hid (∀ W, Below wr.heap.size wr W → ldA W (.pointer (some ⟨b1, o1 + j * 67, none⟩)) 67 = some (lk (lkAt l j))) := fun W g => lks_ld (keepR g x1) (by have := Ll.out; have := HLT.out; omega)
      have Y2 : Hid (∀ W, Below wr.heap.size wr W → ldA W (.pointer (some ⟨b2, o2 + j * 67, none⟩)) 67 = some (lk (lkAt k j))) := fun W g => lks_ld (keepR g x2) (by have := Lk.out; have := HLT.out; omega)
      have C1 := Lib.hid (fun W => HC1.out (lkAt l j) (lkAt k j) W)
      have C2 := Lib.hid (fun W => HC2.out (lkAt l j) (lkAt k j) W)
      generalize lkAt l j = La at *
      generalize lkAt k j = Lb at *
      generalize clashB La Lb = CL at *
      clear h1 h2 x1 x2
      go_wp2_with fail
      have L0 := fun p : Wd wr.drew => wd_ld (Y1.out wr (Below.refl _ _)) (by decide) p
      have L1 := fun p : Wd wr.drew => wd_ld (Y2.out wr (Below.refl _ _)) (by decide) p
      refine wp_region_lex [8] (by kernel_rfl) (by kernel_rfl) (by kernel_rfl) ?_
      repeat (first | (refine wpXL_quiet rfl rfl _ cls_begin ?_; (first | go_big_quiet_step (fail) | quiet_step (fail)); refine wpQuiet_nil ?_) | refine wpXL_skip rfl ?_)
      refine wpXL_call rfl rfl rfl enters_ref15Clash #[.agg (lk La), .agg (lk Lb)] rfl ?_
      refine (C2.out _).mono ?_
      rintro e u ⟨rfl, g⟩
      refine ⟨_, rfl, g, ?_⟩
      simp only [Act.put, List.setIfInBounds_toArray, List.set_cons_zero, List.set_cons_succ]
      have G1 : Hid (Below wr.heap.size wr u) := belowT (belowD (Below.refl _ _) 1) g
      clear g
      repeat (first | (refine wpXL_quiet rfl rfl _ cls_begin ?_; (first | go_big_quiet_step (fail) | quiet_step (fail)); refine wpQuiet_nil ?_) | refine wpXL_skip rfl ?_)
      refine wpXL_nil ?_
      clear L0 L1
      have n1 : (CL != CL) = false := by cases CL <;> rfl
      go_wp2_with fail
      have L0 := fun p : Wd u.drew => wd_ld (Y1.out u G1.out) (by decide) p
      have L1 := fun p : Wd u.drew => wd_ld (Y2.out u G1.out) (by decide) p
      refine wp_region_lex [8] (by kernel_rfl) (by kernel_rfl) (by kernel_rfl) ?_
      repeat (first | (refine wpXL_quiet rfl rfl _ cls_begin ?_; (first | go_big_quiet_step (fail) | quiet_step (fail)); refine wpQuiet_nil ?_) | refine wpXL_skip rfl ?_)
      refine wpXL_call rfl rfl rfl enters_linkClash15 #[.agg (lk La), .agg (lk Lb)] rfl ?_
      refine (C1.out _).mono ?_
      rintro e u2 ⟨rfl, g⟩
      refine ⟨_, rfl, g, ?_⟩
      simp only [Act.put, List.setIfInBounds_toArray, List.set_cons_zero, List.set_cons_succ]
      have G2 : Hid (Below wr.heap.size wr u2) := belowT G1.out (belowT (belowD (Below.refl _ _) 1) g)
      clear g
      repeat (first | (refine wpXL_quiet rfl rfl _ cls_begin ?_; (first | go_big_quiet_step (fail) | quiet_step (fail)); refine wpQuiet_nil ?_) | refine wpXL_skip rfl ?_)
      refine wpXL_nil ?_
      clear L0 L1
      go_wp2_with fail
      go_roundw
      case rel => exact ⟨j + 1, HLT.out.1, HLT.out.2, by go_num, belowT HB.out G2.out⟩
      case measure => simp [intOf]; have := HLT.out; omega
    · have A1 := Lib.hid (belowT A0.out HB.out)
      have K1 := Lib.hid (slE_keep HB.out Kl.out)
      have K2 := Lib.hid (slE_keep HB.out Kk.out)
      have s1 := (ck_v (blk_keep HB.out Ms.out)).a
      have t1 := (ck_v (blk_keep HB.out Mt.out)).a
      have L0 := fun p : Wd wr.drew => wd_ld s1 (by decide) p
      have L1 := fun p : Wd wr.drew => wd_ld t1 (by decide) p
      have e1 : ((ER : Int) == (ER : Int)) = true := by simp
      have e2 : (MY == MY) = true := by cases MY <;> rfl
      have e3 : (SM == SM) = true := by cases SM <;> rfl
      have e4 : ((WH : Int) == (WH : Int)) = true := by simp
      have e5 : ((GT : Int) == (GT : Int)) = true := by simp
      clear A0 Kl Kk Ms Mt s1 t1
      by_cases hn : j < nl
      · have d0 : decide ((j : Int) < (nl : Int)) = true := decide_eq_true (by omega)
        have d0' : decide (j < nl) = true := decide_eq_true hn
        have d1 : decide ((j : Int) < (nk : Int)) = false := decide_eq_false (by omega)
        have d1' : decide (j < nk) = false := decide_eq_false (by omega)
        clear hlt hn
        go_wp2_with fail
        refine wp_region_lex [8, 12, 15, 19, 23, 27, 30, 32, 34] (by kernel_rfl) (by kernel_rfl) (by kernel_rfl) ?_
        repeat (first | (refine wpXL_quiet rfl rfl _ cls_begin ?_; (first | go_big_quiet_step (fail) | quiet_step (fail)); refine wpQuiet_nil ?_) | refine wpXL_skip rfl ?_)
        refine wpXL_call rfl rfl rfl enters_linkMay15 #[.slice pl nl cl] rfl ?_
        refine (HM1.out _ _ (slE_keep (belowD (Below.refl _ _) 1) K1.out)).mono ?_
        rintro e u ⟨rfl, g⟩
        refine ⟨_, rfl, g, ?_⟩
        simp only [Act.put, List.setIfInBounds_toArray, List.set_cons_zero, List.set_cons_succ]
        have G : Hid (Below wr.heap.size wr u) := belowT (belowD (Below.refl _ _) 1) g
        clear g
        repeat (first | (refine wpXL_quiet rfl rfl _ cls_begin ?_; (first | go_big_quiet_step (fail) | quiet_step (fail)); refine wpQuiet_nil ?_) | refine wpXL_skip rfl ?_)
        refine wpXL_eff rfl rfl (.bool true) _ rfl (Below.refl _ _) ?_
        simp only [Act.put, List.setIfInBounds_toArray, List.set_cons_zero, List.set_cons_succ]
        repeat (first | (refine wpXL_quiet rfl rfl _ cls_begin ?_; (first | go_big_quiet_step (fail) | quiet_step (fail)); refine wpQuiet_nil ?_) | refine wpXL_skip rfl ?_)
        refine wpXL_call rfl rfl rfl enters_linkSame15 #[.slice pl nl cl, .slice pk nk ck] rfl ?_
        refine (HS1.out _ _ _ (slE_keep G.out K1.out) (slE_keep G.out K2.out)).mono ?_
        rintro e u ⟨rfl, g⟩
        refine ⟨_, rfl, g, ?_⟩
        simp only [Act.put, List.setIfInBounds_toArray, List.set_cons_zero, List.set_cons_succ]
        replace G : Hid (Below wr.heap.size wr u) := belowT G.out g
        clear g
        repeat (first | (refine wpXL_quiet rfl rfl _ cls_begin ?_; (first | go_big_quiet_step (fail) | quiet_step (fail)); refine wpQuiet_nil ?_) | refine wpXL_skip rfl ?_)
        refine wpXL_eff rfl rfl (.bool true) _ rfl (Below.refl _ _) ?_
        simp only [Act.put, List.setIfInBounds_toArray, List.set_cons_zero, List.set_cons_succ]
        repeat (first | (refine wpXL_quiet rfl rfl _ cls_begin ?_; (first | go_big_quiet_step (fail) | quiet_step (fail)); refine wpQuiet_nil ?_) | refine wpXL_skip rfl ?_)
        refine wpXL_call rfl rfl rfl enters_linkWho15 #[.slice pl nl cl, .agg (cc s), .agg (cc t)] rfl ?_
        refine (HW1.out _ _ (slE_keep G.out K1.out)).mono ?_
        rintro e u ⟨rfl, g⟩
        refine ⟨_, rfl, g, ?_⟩
        simp only [Act.put, List.setIfInBounds_toArray, List.set_cons_zero, List.set_cons_succ]
        replace G : Hid (Below wr.heap.size wr u) := belowT G.out g
        clear g
        repeat (first | (refine wpXL_quiet rfl rfl _ cls_begin ?_; (first | go_big_quiet_step (fail) | quiet_step (fail)); refine wpQuiet_nil ?_) | refine wpXL_skip rfl ?_)
        refine wpXL_call rfl rfl rfl enters_ref15Who #[.slice pl nl cl, .agg (cc s), .agg (cc t)] rfl ?_
        refine (HW2.out _ _ (slE_keep G.out K1.out)).mono ?_
        rintro e u ⟨rfl, g⟩
        refine ⟨_, rfl, g, ?_⟩
        simp only [Act.put, List.setIfInBounds_toArray, List.set_cons_zero, List.set_cons_succ]
        replace G : Hid (Below wr.heap.size wr u) := belowT G.out g
        clear g
        repeat (first | (refine wpXL_quiet rfl rfl _ cls_begin ?_; (first | go_big_quiet_step (fail) | quiet_step (fail)); refine wpQuiet_nil ?_) | refine wpXL_skip rfl ?_)
        refine wpXL_eff rfl rfl (.bool true) _ rfl (Below.refl _ _) ?_
        simp only [Act.put, List.setIfInBounds_toArray, List.set_cons_zero, List.set_cons_succ]
        repeat (first | (refine wpXL_quiet rfl rfl _ cls_begin ?_; (first | go_big_quiet_step (fail) | quiet_step (fail)); refine wpQuiet_nil ?_) | refine wpXL_skip rfl ?_)
        refine wpXL_call rfl rfl rfl enters_linkGuilty15 #[.slice pl nl cl] rfl ?_
        refine (HG1.out _ _ (slE_keep G.out K1.out)).mono ?_
        rintro e u ⟨rfl, g⟩
        refine ⟨_, rfl, g, ?_⟩
        simp only [Act.put, List.setIfInBounds_toArray, List.set_cons_zero, List.set_cons_succ]
        replace G : Hid (Below wr.heap.size wr u) := belowT G.out g
        clear g
        repeat (first | (refine wpXL_quiet rfl rfl _ cls_begin ?_; (first | go_big_quiet_step (fail) | quiet_step (fail)); refine wpQuiet_nil ?_) | refine wpXL_skip rfl ?_)
        refine wpXL_call rfl rfl rfl enters_ref15Guilty #[.slice pl nl cl] rfl ?_
        refine (HG2.out _ _ (slE_keep G.out K1.out)).mono ?_
        rintro e u ⟨rfl, g⟩
        refine ⟨_, rfl, g, ?_⟩
        simp only [Act.put, List.setIfInBounds_toArray, List.set_cons_zero, List.set_cons_succ]
        replace G : Hid (Below wr.heap.size wr u) := belowT G.out g
        clear g
        repeat (first | (refine wpXL_quiet rfl rfl _ cls_begin ?_; (first | go_big_quiet_step (fail) | quiet_step (fail)); refine wpQuiet_nil ?_) | refine wpXL_skip rfl ?_)
        refine wpXL_nil ?_
        clear L0 L1
        go_wp2_with fail
        go_ret
        exact ⟨rfl, belowT A1.out G.out⟩
      · have d0 : decide ((j : Int) < (nl : Int)) = false := decide_eq_false (by omega)
        have d0' : decide (j < nl) = false := decide_eq_false hn
        clear hlt hn
        go_wp2_with fail
        refine wp_region_lex [8, 12, 15, 19, 23, 27, 30, 32, 34] (by kernel_rfl) (by kernel_rfl) (by kernel_rfl) ?_
        repeat (first | (refine wpXL_quiet rfl rfl _ cls_begin ?_; (first | go_big_quiet_step (fail) | quiet_step (fail)); refine wpQuiet_nil ?_) | refine wpXL_skip rfl ?_)
        refine wpXL_call rfl rfl rfl enters_linkMay15 #[.slice pl nl cl] rfl ?_
        refine (HM1.out _ _ (slE_keep (belowD (Below.refl _ _) 1) K1.out)).mono ?_
        rintro e u ⟨rfl, g⟩
        refine ⟨_, rfl, g, ?_⟩
        simp only [Act.put, List.setIfInBounds_toArray, List.set_cons_zero, List.set_cons_succ]
        have G : Hid (Below wr.heap.size wr u) := belowT (belowD (Below.refl _ _) 1) g
        clear g
        repeat (first | (refine wpXL_quiet rfl rfl _ cls_begin ?_; (first | go_big_quiet_step (fail) | quiet_step (fail)); refine wpQuiet_nil ?_) | refine wpXL_skip rfl ?_)
        refine wpXL_eff rfl rfl (.bool true) _ rfl (Below.refl _ _) ?_
        simp only [Act.put, List.setIfInBounds_toArray, List.set_cons_zero, List.set_cons_succ]
        repeat (first | (refine wpXL_quiet rfl rfl _ cls_begin ?_; (first | go_big_quiet_step (fail) | quiet_step (fail)); refine wpQuiet_nil ?_) | refine wpXL_skip rfl ?_)
        refine wpXL_call rfl rfl rfl enters_linkSame15 #[.slice pl nl cl, .slice pk nk ck] rfl ?_
        refine (HS1.out _ _ _ (slE_keep G.out K1.out) (slE_keep G.out K2.out)).mono ?_
        rintro e u ⟨rfl, g⟩
        refine ⟨_, rfl, g, ?_⟩
        simp only [Act.put, List.setIfInBounds_toArray, List.set_cons_zero, List.set_cons_succ]
        replace G : Hid (Below wr.heap.size wr u) := belowT G.out g
        clear g
        repeat (first | (refine wpXL_quiet rfl rfl _ cls_begin ?_; (first | go_big_quiet_step (fail) | quiet_step (fail)); refine wpQuiet_nil ?_) | refine wpXL_skip rfl ?_)
        refine wpXL_eff rfl rfl (.bool true) _ rfl (Below.refl _ _) ?_
        simp only [Act.put, List.setIfInBounds_toArray, List.set_cons_zero, List.set_cons_succ]
        repeat (first | (refine wpXL_quiet rfl rfl _ cls_begin ?_; (first | go_big_quiet_step (fail) | quiet_step (fail)); refine wpQuiet_nil ?_) | refine wpXL_skip rfl ?_)
        refine wpXL_call rfl rfl rfl enters_linkWho15 #[.slice pl nl cl, .agg (cc s), .agg (cc t)] rfl ?_
        refine (HW1.out _ _ (slE_keep G.out K1.out)).mono ?_
        rintro e u ⟨rfl, g⟩
        refine ⟨_, rfl, g, ?_⟩
        simp only [Act.put, List.setIfInBounds_toArray, List.set_cons_zero, List.set_cons_succ]
        replace G : Hid (Below wr.heap.size wr u) := belowT G.out g
        clear g
        repeat (first | (refine wpXL_quiet rfl rfl _ cls_begin ?_; (first | go_big_quiet_step (fail) | quiet_step (fail)); refine wpQuiet_nil ?_) | refine wpXL_skip rfl ?_)
        refine wpXL_call rfl rfl rfl enters_ref15Who #[.slice pl nl cl, .agg (cc s), .agg (cc t)] rfl ?_
        refine (HW2.out _ _ (slE_keep G.out K1.out)).mono ?_
        rintro e u ⟨rfl, g⟩
        refine ⟨_, rfl, g, ?_⟩
        simp only [Act.put, List.setIfInBounds_toArray, List.set_cons_zero, List.set_cons_succ]
        replace G : Hid (Below wr.heap.size wr u) := belowT G.out g
        clear g
        repeat (first | (refine wpXL_quiet rfl rfl _ cls_begin ?_; (first | go_big_quiet_step (fail) | quiet_step (fail)); refine wpQuiet_nil ?_) | refine wpXL_skip rfl ?_)
        refine wpXL_eff rfl rfl (.bool true) _ rfl (Below.refl _ _) ?_
        simp only [Act.put, List.setIfInBounds_toArray, List.set_cons_zero, List.set_cons_succ]
        repeat (first | (refine wpXL_quiet rfl rfl _ cls_begin ?_; (first | go_big_quiet_step (fail) | quiet_step (fail)); refine wpQuiet_nil ?_) | refine wpXL_skip rfl ?_)
        refine wpXL_call rfl rfl rfl enters_linkGuilty15 #[.slice pl nl cl] rfl ?_
        refine (HG1.out _ _ (slE_keep G.out K1.out)).mono ?_
        rintro e u ⟨rfl, g⟩
        refine ⟨_, rfl, g, ?_⟩
        simp only [Act.put, List.setIfInBounds_toArray, List.set_cons_zero, List.set_cons_succ]
        replace G : Hid (Below wr.heap.size wr u) := belowT G.out g
        clear g
        repeat (first | (refine wpXL_quiet rfl rfl _ cls_begin ?_; (first | go_big_quiet_step (fail) | quiet_step (fail)); refine wpQuiet_nil ?_) | refine wpXL_skip rfl ?_)
        refine wpXL_call rfl rfl rfl enters_ref15Guilty #[.slice pl nl cl] rfl ?_
        refine (HG2.out _ _ (slE_keep G.out K1.out)).mono ?_
        rintro e u ⟨rfl, g⟩
        refine ⟨_, rfl, g, ?_⟩
        simp only [Act.put, List.setIfInBounds_toArray, List.set_cons_zero, List.set_cons_succ]
        replace G : Hid (Below wr.heap.size wr u) := belowT G.out g
        clear g
        repeat (first | (refine wpXL_quiet rfl rfl _ cls_begin ?_; (first | go_big_quiet_step (fail) | quiet_step (fail)); refine wpQuiet_nil ?_) | refine wpXL_skip rfl ?_)
        refine wpXL_nil ?_
        clear L0 L1
        go_wp2_with fail
        go_ret
        exact ⟨rfl, belowT A1.out G.out⟩
/-- The law. -/
theorem linkTellsL (H : LinkC)  (vl : Value) (l : List Lk) (vk : Value) (k : List Lk) (s : Ck) (t : Ck) (val : Int) (w : World) (hl : SlE Elk w vl l) (hk : SlE Elk w vk k) :
    Calls Try.prog 3 #[vl, vk, .agg (cc s), .agg (cc t), .int .i64 val] w fun e w' => e = .returned (.bool true) ∧ Below w.heap.size w w' := by
  have kl := hl
  obtain ⟨pl, cl, rfl, _⟩ := slE_shape hl
  have kk := hk
  obtain ⟨pk, ck, rfl, _⟩ := slE_shape hk
  exact linkTells_n H  pl _ cl l pk _ ck k s t val w kl rfl kk rfl
end Go.Proofs.Ytkbifcfgcokmlaa
