/-
  The law LinkGuilty, walked. (written by wip/gen/law15.py)
-/
import Derived.Test.YtkbifcfgcokmlaaQ19
import Derived.Deep.Cut
import Derived.Deep.CutRange
import Derived.Deep.RegionLaw
import Derived.Test.YtkbifcfgcokmlaaQ21
import Derived.Test.YtkbifcfgcokmlaaQ22
namespace Go.Proofs.Ytkbifcfgcokmlaa
open Go.RowKit
set_option maxRecDepth 100000

theorem KlkB : KnownB Try.prog Elk 22 88 := ⟨Try.underlying22, .agg (lk zlk), info_lk, by show ((lk zlk)).size = _; exact lk_size _⟩

set_option maxRecDepth 100000 in
set_option maxHeartbeats 16000000 in
theorem linkGuilty_n (H : LinkC) (HB : ∀ (v : Int) (w : World), Calls Try.prog 22 #[.int .i64 v] w fun e w' => e = .returned (.int .u64 (bitN v : Int)) ∧ Below w.heap.size w w') (pl : Option Addr) (nl cl : Nat) (l : List Lk) (val : Int) (more : Lk) (w : World) (hl : SlE Elk w (.slice pl nl cl) l) (ll : l.length = nl) :
    Calls Try.prog 5 #[.slice pl nl cl, .int .i64 val, .agg (lk more)] w fun e w' => e = .returned (.bool true) ∧ Below w.heap.size w w' := by
  obtain ⟨W0, hW0⟩ : ∃ W0, W0 = (w.alloc (.cells (lk more) 36)) := ⟨_, rfl⟩
  have hB : Below w.heap.size w W0 := by rw [hW0]; exact below1
  have b0 : W0.heap[w.heap.size]? = some (.cells (lk more) 36 (0, 0)) := by rw [hW0]; exact heap_alloc_last w _
  have Mmore : Hid (W0.heap[w.heap.size]? = some (.cells (lk more) 36 (0, 0))) := b0
  have A0 : Hid (Below w.heap.size w W0) := hB
  have HW := Lib.hid hW0
  have Kl := Lib.hid (slE_keep hB hl)
  have Ll := Lib.hid ll
  have HAw := Lib.hid (fun W => awake_any15 H W)
  have HH := Lib.hid H
  have HBt := Lib.hid HB
  clear HB
  clear H hW0 hB b0 hl ll
  go_enter Try.func5, Try.ntmps5
  go_upto_region 1 with fail
  rw [← HW.out]
  go_wp2_with fail
  refine (HAw.out _).mono ?_
  rintro e w1 ⟨rfl, g⟩
  replace Mmore := Lib.hid (blk_keep g Mmore.out)
  replace A0 := Lib.hid (belowT A0.out g)
  replace Kl := Lib.hid (slE_keep g Kl.out)
  clear g
  by_cases h1 : 40 < nl
  · have h1i : decide ((40 : Int) < (nl : Int)) = true := decide_eq_true (by omega)
    have h1i' : decide (40 < nl) = true := decide_eq_true (by omega)
    clear h1
    go_wp2_with fail
    go_ret
    exact ⟨rfl, A0.out⟩
  have h1i : decide ((40 : Int) < (nl : Int)) = false := decide_eq_false (by omega)
  have h1i' : decide (40 < nl) = false := decide_eq_false (by omega)
  by_cases h2 : val < 0
  · have h2i : decide (val < 0) = true := decide_eq_true (h2)
    clear h2
    go_wp2_with fail
    go_ret
    exact ⟨rfl, A0.out⟩
  have h2i : decide (val < 0) = false := decide_eq_false (h2)
  by_cases h3 : 7 < val
  · have h3i : decide (7 < val) = true := decide_eq_true (h3)
    clear h3
    go_wp2_with fail
    go_ret
    exact ⟨rfl, A0.out⟩
  have h3i : decide (7 < val) = false := decide_eq_false (h3)
  obtain ⟨v, rfl⟩ : ∃ v : Nat, val = v := ⟨val.toNat, by omega⟩
  have HN : Hid (nl ≤ 40) := by show _ ≤ _; omega
  have hl : l.length ≤ 1000 := by have := Ll.out; omega
  have HBt2 : Hid (∀ W, Calls Try.prog 22 #[.int .i64 (v : Int)] W fun e w' => e = .returned (.int .u64 ((bitK (v : Int)).toNat : Int)) ∧ Below W.heap.size W w') := fun W => by rw [bitK_nat]; exact HBt.out (v : Int) W
  have HLaw : Hid (decide (guiltT l &&& bitK (v : Int) ≠ 0) = someK l (bitK (v : Int)) nl) := by show _ = _; rw [law_guilty l (by omega), Ll.out]
  have HMore : Hid (guiltT l &&& guiltT (l ++ [more]) = guiltT l) := guilt_more l more
  have HG1 := Lib.hid (fun u W (h : SlE Elk W u l) => HH.out.guilty u l W h hl)
  have HG2 := Lib.hid (fun u W (h : SlE Elk W u (l ++ [more])) => HH.out.guilty u (l ++ [more]) W h (by rw [List.length_append]; have := Ll.out; simp; omega))
  have HC := Lib.hid (fun a b W => HH.out.clash a b W)
  generalize bitK (v : Int) = B at *
  clear hl h1 h2 h3 HBt
  go_wp2_with fail
  refine (HBt2.out _).mono ?_
  rintro e w2 ⟨rfl, g⟩
  replace Mmore := Lib.hid (blk_keep g Mmore.out)
  replace A0 := Lib.hid (belowT A0.out g)
  replace Kl := Lib.hid (slE_keep g Kl.out)
  clear g
  go_wp2_with fail
  go_loopw [9, 10] (fun b i wr => ∃ j : Nat, j ≤ nl ∧ i = .int .i64 (j : Int) ∧ b = .bool (someK l B j) ∧ Below w2.heap.size w2 wr) (fun _ i _ => nl - (intOf i).toNat)
  case atStart => exact ⟨0, Nat.zero_le _, rfl, rfl, Below.refl _ _⟩
  case round =>
    obtain ⟨j, hj, rfl, rfl, hb⟩ := hrel
    obtain ⟨wo, rfl⟩ : ∃ wo : World, wo = wr := ⟨_, rfl⟩
    have HB := Lib.hid hb
    clear hb
    by_cases hlt : j < nl
    · have i0 : (0 : Int) ≤ (j : Int) := by omega
      have i1 : (j : Int) < (nl : Int) := by omega
      have u1 : (j : Int) + 1 < 10000 := by have := HN.out; omega
      have d0 : decide ((j : Int) < (nl : Int)) = true := decide_eq_true i1
      have d0' : decide (j < nl) = true := decide_eq_true hlt
      have HLT := Lib.hid hlt
      clear hlt
      go_wp2_with fail
      clear d0 d0'
      go_loopw [9, 11] (fun b k wr => ∃ q : Nat, q ≤ j ∧ k = .int .i64 (q : Int) ∧ b = .bool (someIn l B j q (someK l B j)) ∧ Below wo.heap.size wo wr) (fun _ k _ => j - (intOf k).toNat)
      case atStart => exact ⟨0, Nat.zero_le _, rfl, rfl, Below.refl _ _⟩
      case round =>
        obtain ⟨q, hq, rfl, rfl, hb⟩ := hrel
        have HI := Lib.hid hb
        clear hb
        by_cases hqj : q < j
        · have d1 : decide ((q : Int) < (j : Int)) = true := decide_eq_true (by omega)
          have d1' : decide (q < j) = true := decide_eq_true hqj
          have q0 : (0 : Int) ≤ (q : Int) := by omega
          have q1 : (q : Int) < (nl : Int) := by omega
          have q2 : (q : Int) + 1 < 10000 := by omega
          have HQ := Lib.hid hqj
          obtain ⟨b2, o2, rfl, _, x2⟩ := lks_ptr (slE_keep (belowT HB.out HI.out) Kl.out) (by have := Ll.out; omega)
          have y1 := lks_mask x2 (i := j) (by have := Ll.out; omega)
          have y2 := lks_mask x2 (i := q) (by have := Ll.out; omega)
          have z1 := lks_ld x2 (i := j) (by have := Ll.out; omega)
          have z2 := lks_ld x2 (i := q) (by have := Ll.out; omega)
          have HS : Hid (someIn l B j (q + 1) (someK l B j) = (someIn l B j q (someK l B j) || ((decide ((lkAt l j).mask &&& B ≠ 0) && decide ((lkAt l q).mask &&& B ≠ 0)) && clashB (lkAt l j) (lkAt l q)))) := Lib.hid rfl
          have HCq := Lib.hid (fun W => HC.out (lkAt l j) (lkAt l q) W)
          have a1 := k_and (lkAt l j).mask B
          have a2 := k_and (lkAt l q).mask B
          obtain ⟨P1, hP1⟩ : ∃ P, P = decide ((lkAt l j).mask &&& B ≠ 0) := ⟨_, rfl⟩
          obtain ⟨P2, hP2⟩ : ∃ P, P = decide ((lkAt l q).mask &&& B ≠ 0) := ⟨_, rfl⟩
          have hne : ∀ x : UInt64, ((x.toNat : Int) != 0) = decide (x ≠ 0) := fun x => by
            rw [Bool.eq_iff_iff, bne_iff_ne, decide_eq_true_iff]
            exact ⟨fun h e => h (by rw [e]; rfl), fun h e => h (UInt64.toNat_inj.1 (by show x.toNat = 0; omega))⟩
          have n1 : ((((lkAt l j).mask &&& B).toNat : Int) != 0) = P1 := by rw [hP1]; exact hne _
          have n2 : ((((lkAt l q).mask &&& B).toNat : Int) != 0) = P2 := by rw [hP2]; exact hne _
          rw [← hP1, ← hP2] at HS
          obtain ⟨CL, hCL⟩ : ∃ C, C = clashB (lkAt l j) (lkAt l q) := ⟨_, rfl⟩
          rw [← hCL] at HS HCq
          obtain ⟨S0, hS0⟩ : ∃ S, S = someIn l B j q (someK l B j) := ⟨_, rfl⟩
          rw [← hS0] at HS
          rw [← hS0]
          generalize ((lkAt l j).mask &&& B).toNat = X1 at *
          generalize ((lkAt l q).mask &&& B).toNat = X2 at *
          generalize (lkAt l j).mask.toNat = M1 at *
          generalize (lkAt l q).mask.toNat = M2 at *
          generalize lkAt l j = Lj at *
          generalize lkAt l q = Lq at *
          clear hqj x2 hP1 hP2 hne hCL hS0
          go_wp2_with fail
          have L0 := fun p : Wd wr.drew => wd_cell y1 p
          have L1 := fun p : Wd wr.drew => wd_cell y2 p
          have L2 := fun p : Wd wr.drew => wd_ld z1 (by decide) p
          have L3 := fun p : Wd wr.drew => wd_ld z2 (by decide) p
          clear y1 y2 z1 z2
          cases S0
          · cases P1
            · refine wp_region_lex [29] (by kernel_rfl) (by kernel_rfl) (by kernel_rfl) ?_
              repeat (first | (refine wpXL_quiet rfl rfl _ cls_begin ?_; (first | go_big_quiet_step (fail) | quiet_step (fail)); refine wpQuiet_nil ?_) | refine wpXL_skip rfl ?_)
              refine wpXL_nil ?_
              clear L0 L1 L2 L3
              go_wp2_with fail
              go_roundw
              case rel => exact ⟨q + 1, HQ.out, by go_num, by rw [HS.out]; rfl, belowD HI.out 1⟩
              case measure => simp [intOf]; have := HQ.out; omega
            · cases P2
              · refine wp_region_lex [29] (by kernel_rfl) (by kernel_rfl) (by kernel_rfl) ?_
                repeat (first | (refine wpXL_quiet rfl rfl _ cls_begin ?_; (first | go_big_quiet_step (fail) | quiet_step (fail)); refine wpQuiet_nil ?_) | refine wpXL_skip rfl ?_)
                refine wpXL_nil ?_
                clear L0 L1 L2 L3
                go_wp2_with fail
                go_roundw
                case rel => exact ⟨q + 1, HQ.out, by go_num, by rw [HS.out]; rfl, belowD HI.out 1⟩
                case measure => simp [intOf]; have := HQ.out; omega
              · refine wp_region_lex [29] (by kernel_rfl) (by kernel_rfl) (by kernel_rfl) ?_
                repeat (first | (refine wpXL_quiet rfl rfl _ cls_begin ?_; (first | go_big_quiet_step (fail) | quiet_step (fail)); refine wpQuiet_nil ?_) | refine wpXL_skip rfl ?_)
                refine wpXL_call rfl rfl rfl enters_linkClash15 #[.agg (lk Lj), .agg (lk Lq)] rfl ?_
                refine (HCq.out _).mono ?_
                rintro e u ⟨rfl, g⟩
                refine ⟨_, rfl, g, ?_⟩
                simp only [Act.put, List.setIfInBounds_toArray, List.set_cons_zero, List.set_cons_succ]
                have G1 : Hid (Below wr.heap.size wr u) := belowT (belowD (Below.refl _ _) 1) g
                clear g
                repeat (first | (refine wpXL_quiet rfl rfl _ cls_begin ?_; (first | go_big_quiet_step (fail) | quiet_step (fail)); refine wpQuiet_nil ?_) | refine wpXL_skip rfl ?_)
                refine wpXL_nil ?_
                clear L0 L1 L2 L3
                go_wp2_with fail
                go_roundw
                case rel => exact ⟨q + 1, HQ.out, by go_num, by rw [HS.out]; rfl, belowT HI.out G1.out⟩
                case measure => simp [intOf]; have := HQ.out; omega
          · refine wp_region_lex [29] (by kernel_rfl) (by kernel_rfl) (by kernel_rfl) ?_
            repeat (first | (refine wpXL_quiet rfl rfl _ cls_begin ?_; (first | go_big_quiet_step (fail) | quiet_step (fail)); refine wpQuiet_nil ?_) | refine wpXL_skip rfl ?_)
            refine wpXL_nil ?_
            clear L0 L1 L2 L3
            go_wp2_with fail
            go_roundw
            case rel => exact ⟨q + 1, HQ.out, by go_num, by rw [HS.out]; rfl, belowD HI.out 1⟩
            case measure => simp [intOf]; have := HQ.out; omega
        · obtain rfl : q = j := by omega
          have d1 : decide ((q : Int) < (q : Int)) = false := decide_eq_false (Int.lt_irrefl _)
          have d1' : decide (q < q) = false := decide_eq_false (Nat.lt_irrefl _)
          clear hqj
          go_wp2_with fail
          go_roundw
          case rel => exact ⟨q + 1, HLT.out, by go_num, rfl, belowT HB.out HI.out⟩
          case measure => simp [intOf]; have := HLT.out; omega
    · obtain rfl : j = nl := by omega
      have d0 : decide ((j : Int) < (j : Int)) = false := decide_eq_false (Int.lt_irrefl _)
      have d0' : decide (j < j) = false := decide_eq_false (Nat.lt_irrefl _)
      have A1 := Lib.hid (belowT A0.out HB.out)
      have K1 := Lib.hid (slE_keep HB.out Kl.out)
      have M1 := Lib.hid (blk_keep HB.out Mmore.out)
      have a1 := k_and (guiltT l) B
      have a2 := k_and (guiltT l) (guiltT (l ++ [more]))
      rw [HMore.out] at a2
      have n1 : ((((guiltT l &&& B).toNat : Int) != 0) = someK l B j) := by
        rw [← HLaw.out, Bool.eq_iff_iff, bne_iff_ne, decide_eq_true_iff]
        exact ⟨fun h e => h (by rw [e]; rfl), fun h e => h (UInt64.toNat_inj.1 (by show (guiltT l &&& B).toNat = 0; omega))⟩
      generalize someK l B j = S at *
      generalize (guiltT l &&& B).toNat = X1 at *
      generalize (guiltT (l ++ [more])).toNat = GA at *
      generalize (guiltT l).toNat = GT at *
      have e1 : ((GT : Int) == (GT : Int)) = true := by simp
      have e2 : (S == S) = true := by cases S <;> rfl
      clear hlt HLaw HMore A0 Kl Mmore
      go_wp2_with fail
      refine (HG1.out _ _ K1.out).mono ?_
      rintro e w8 ⟨rfl, g⟩
      replace A1 := Lib.hid (belowT A1.out g)
      replace K1 := Lib.hid (slE_keep g K1.out)
      replace M1 := Lib.hid (blk_keep g M1.out)
      clear g
      go_wp2_with fail
      have hwB : w8.heap.size ≤ w8.drew.heap.size := Nat.le_refl _
      have Q0 := wd_ld (ldA_block M1.out (lk_size more))
      have hlen : l.length ≤ 40 := by have := Ll.out; have := HN.out; omega
      refine wp_region_G w8.heap.size [2] [1, 3, 4, 5] (by kernel_rfl) ?_
      refine GX.take2 0 rfl rfl rfl (by kernel_rfl) (by kernel_rfl) (by kernel_rfl) rfl hwB ?_
      (first | go_big_quiet_step (fail) | quiet_step (fail)); refine wpQuiet_nil ?_
      refine GX.take1 2 rfl rfl rfl (by kernel_rfl) (by kernel_rfl) (by kernel_rfl) rfl hwB ?_
      (first | go_big_quiet_step (fail) | quiet_step (fail)); refine wpQuiet_nil ?_
      refine GX.branch2 1 3 (by kernel_rfl) ?_ ?_
      · refine xOp_append KlkB rfl rfl rfl (.const (.slice none 0 0)) (.tmp 78) rfl w8.heap.size _ [] rfl (ownE_nil _ _ _) _ l rfl (slE_keep (belowD (Below.refl _ _) 1) K1.out) (by simp [maxLen]; omega) (by simp; omega) (Nat.le_refl _) (fun w' hb => relE_lq hb) ?_
        intro v5 w5 o5 g5
        simp only [Act.put, List.setIfInBounds_toArray, List.set_cons_zero, List.set_cons_succ]
        have D5 : Below w8.heap.size w8 w5 := (belowD (Below.refl _ _) 1).trans g5.nil
        refine GX.branch1 3 (by kernel_rfl) ?_
        refine xOp_eff rfl rfl rfl (.slice (some ⟨w5.heap.size, 0, none⟩) 1 1) (w5.alloc (.cells (lk more) 36)) (by go_simp) (relE_lq below1) ?_
        simp only [Act.put, List.setIfInBounds_toArray, List.set_cons_zero, List.set_cons_succ]
        have E6 := ownE_alloc (o := .cells (lk more) 36) o5
        have F6 := lk_lit1 w5 more _ rfl
        have D6 : Below w8.heap.size w8 (w5.alloc (.cells (lk more) 36)) := belowT D5 below1
        refine GX.branch1 4 (by kernel_rfl) ?_
        refine xOp_append KlkB rfl rfl rfl (.tmp 79) (.tmp 81) rfl w8.heap.size _ l rfl E6 _ [more] rfl F6 (by simp [maxLen]; omega) (by simp; omega) D6.size (fun w' hb => relE_tail (by kernel_rfl) (hb.mono hwB)) ?_
        intro v7 w7 o7 g7
        simp only [Act.put, List.setIfInBounds_toArray, List.set_cons_zero, List.set_cons_succ]
        have D7 : Below w8.heap.size w8 w7 := D6.trans (g7.own E6 D6.size)
        clear o5 g5 D5 E6 F6 D6 g7
        refine GX.branch1 5 (by kernel_rfl) ?_
        refine xOp_call rfl rfl rfl rfl enters_linkGuilty15 #[v7] rfl ?_
        refine (HG2.out v7 w7 (ownE_slE o7)).mono ?_
        rintro e w9 ⟨rfl, g9⟩
        refine ⟨_, rfl, g9, ?_⟩
        simp only [Act.put, List.setIfInBounds_toArray, List.set_cons_zero, List.set_cons_succ]
        have A9 := Lib.hid (belowT A1.out (belowT D7 g9))
        refine GX.take2 6 rfl rfl rfl (by kernel_rfl) (by kernel_rfl) (by kernel_rfl) rfl hwB ?_
        (first | go_big_quiet_step (fail) | quiet_step (fail)); refine wpQuiet_nil ?_
        refine GX.nil (by kernel_rfl) ?_
        clear Q0 hwB hlen o7 D7 g9
        go_wp2_with fail
        go_ret
        exact ⟨rfl, A9.out⟩
      · refine xOp_eff rfl rfl rfl (.slice (some ⟨w8.heap.size, 0, none⟩) 1 1) (w8.drew.alloc (.cells (lk more) 36)) (by go_simp) (relE_lq below1) ?_
        simp only [Act.put, List.setIfInBounds_toArray, List.set_cons_zero, List.set_cons_succ]
        have F5 := lk_lit1 w8.drew more _ rfl
        have D4 : Below w8.heap.size w8 (w8.drew.alloc (.cells (lk more) 36)) := belowT (belowD (Below.refl _ _) 1) below1
        refine GX.branch1 1 (by kernel_rfl) ?_
        refine xOp_append KlkB rfl rfl rfl (.const (.slice none 0 0)) (.tmp 78) rfl (w8.drew.alloc (.cells (lk more) 36)).heap.size _ [] rfl (ownE_nil _ _ _) _ l rfl (slE_keep D4 K1.out) (by simp [maxLen]; omega) (by simp; omega) (Nat.le_refl _) (fun w' hb => relE_lq hb) ?_
        intro v5 w5 o5' g5
        have o5 := ownE_base o5' D4.size
        simp only [Act.put, List.setIfInBounds_toArray, List.set_cons_zero, List.set_cons_succ]
        have F6 := slE_keep g5.nil F5
        have D6 : Below w8.heap.size w8 w5 := belowT D4 g5.nil
        refine GX.branch1 4 (by kernel_rfl) ?_
        refine xOp_append KlkB rfl rfl rfl (.tmp 79) (.tmp 81) rfl w8.heap.size _ l rfl o5 _ [more] rfl F6 (by simp [maxLen]; omega) (by simp; omega) D6.size (fun w' hb => relE_tail (by kernel_rfl) (hb.mono hwB)) ?_
        intro v7 w7 o7 g7
        simp only [Act.put, List.setIfInBounds_toArray, List.set_cons_zero, List.set_cons_succ]
        have D7 : Below w8.heap.size w8 w7 := D6.trans (g7.own o5 D6.size)
        clear o5 o5' g5 F5 F6 D4 D6 g7
        refine GX.branch1 5 (by kernel_rfl) ?_
        refine xOp_call rfl rfl rfl rfl enters_linkGuilty15 #[v7] rfl ?_
        refine (HG2.out v7 w7 (ownE_slE o7)).mono ?_
        rintro e w9 ⟨rfl, g9⟩
        refine ⟨_, rfl, g9, ?_⟩
        simp only [Act.put, List.setIfInBounds_toArray, List.set_cons_zero, List.set_cons_succ]
        have A9 := Lib.hid (belowT A1.out (belowT D7 g9))
        refine GX.take2 6 rfl rfl rfl (by kernel_rfl) (by kernel_rfl) (by kernel_rfl) rfl hwB ?_
        (first | go_big_quiet_step (fail) | quiet_step (fail)); refine wpQuiet_nil ?_
        refine GX.nil (by kernel_rfl) ?_
        clear Q0 hwB hlen o7 D7 g9
        go_wp2_with fail
        go_ret
        exact ⟨rfl, A9.out⟩
/-- The law. -/
theorem linkGuiltyL (H : LinkC) (HB : ∀ (v : Int) (w : World), Calls Try.prog 22 #[.int .i64 v] w fun e w' => e = .returned (.int .u64 (bitN v : Int)) ∧ Below w.heap.size w w') (vl : Value) (l : List Lk) (val : Int) (more : Lk) (w : World) (hl : SlE Elk w vl l) :
    Calls Try.prog 5 #[vl, .int .i64 val, .agg (lk more)] w fun e w' => e = .returned (.bool true) ∧ Below w.heap.size w w' := by
  have kl := hl
  obtain ⟨pl, cl, rfl, _⟩ := slE_shape hl
  exact linkGuilty_n H HB pl _ cl l val more w kl rfl
end Go.Proofs.Ytkbifcfgcokmlaa
