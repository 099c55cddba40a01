/-
  Package link: Guilty, walked.
  What the laws of layer 16 want of tree, link and stake.
  How long a list of numbers can be that comes in: the form's own reach.
-/
import Derived.Test.YtlhnjaeocoafnaaQ46
import Derived.Test.YtlhnjaeocoafnaaQ47
import Derived.Test.YtlhnjaeocoafnaaQ36
import Derived.Test.YtlhnjaeocoafnaaQ48
import Derived.Test.YtlhnjaeocoafnaaQ29
import Derived.Test.YtlhnjaeocoafnaaQ45
import Derived.Test.YtlhnjaeocoafnaaQ18
import Derived.SizedLaws
namespace Go.Proofs.Ytlhnjaeocoafnaa
open Go.RowKit Go.Maps
set_option maxRecDepth 100000

theorem run_makeMapG {P : Program} (T : TypeId) (w : World) : (Instr.makeMap T none).run P w = .ok (.map (some w.heap.size)) (w.alloc (.map #[] 0)) := by
  simp only [Instr.makeMap]
  simp
theorem stakeBitG (v : Nat) (w : World) : Calls Try.prog 60 #[.int .i64 (v : Int)] w fun e w' => e = .returned (.int .u64 ((bitK (v : Int)).toNat : Int)) ∧ Below w.heap.size w w' := by
  rw [bitK_nat]; exact stakeBit (v : Int) w
theorem keyed_intG : Keyed Try.prog 3 := int_keyed Try.underlying3
theorem key_intG {v : Nat} (h : v < 64) : keyOf Try.prog 3 (.int .i64 (v : Int)) = some (kI v) := keyOf_int_mk Try.underlying3 (WalkArith.wf_i64 (by omega))
abbrev OwnsG (W : World) (b n : Nat) (D : DataW Unit) : Prop := W.ownsMap Try.prog 3 (plainElem Try.prog 3) b n D
theorem look_intG {W : World} {b n : Nat} {D : DataW Unit} (h : OwnsG W b n D) {v : Nat} (hv : v < 64) : ∃ c : Int,
    (Instr.lookup 87 (.map (some b)) (.int .i64 (v : Int)) true).run Try.prog W = .ok (.tuple #[.int .i64 c, .bool (Maps.has D (kI v))]) W ∧ D.atKey (kI v) (iLk 0) = iLk c := by
  obtain ⟨x, ps, hrun, hv⟩ := h.look_ok keyed_intG Try.underlying87 (zero_intK W) (plainElem_int Try.underlying3 (by decide)) (key_intG hv)
  obtain ⟨a, rfl, hz, _⟩ := plainElem_int_inv Try.underlying3 hv
  exact ⟨a, hrun, congrArg Prod.fst hz⟩
theorem map_cellG {W : World} {b n : Nat} {D : DataW Unit} (h : OwnsG W b n D) (o : Nat) : W.cell? ⟨b, o, none⟩ = none := by
  obtain ⟨es, clock, hb, _⟩ := h
  simp [World.cell?, hb]
theorem But.grownG {s0 n₀ D : Nat} {A W W' : World} (h : But s0 n₀ D A W) (hg : W.grownBy W' (some D)) (hn : n₀ ≤ W.heap.size) (hs : s0 ≤ D) (hs0 : s0 ≤ n₀) : But s0 n₀ D A W' :=
  h.trans ⟨(Below.refl _ _).grown hg (Nat.le_trans hs0 hn) (fun k e => by cases e; exact hs), fun k hk hne => hg.block k (Nat.lt_of_lt_of_le hk hn) (fun e => by cases e; exact hne rfl)⟩
theorem whoI_at {M : UInt64} {p : Nat} (hp : p < (whoT M).length) : (whoI M).getD p 0 = (((whoT M)[p] : Nat) : Int) := by
  unfold whoI
  rw [List.getD_eq_getElem?_getD, List.getElem?_map, List.getElem?_eq_getElem hp]; rfl

set_option maxRecDepth 100000 in
set_option maxHeartbeats 16000000 in
theorem progLinkGuilty_n (p : Option Addr) (n cp : Nat) (l : List Lk) (w : World) (h : SlE Elk w (.slice p n cp) l) (hl : l.length = n) (hn : n ≤ 1000) :
    Calls Try.prog 27 #[.slice p n cp] w fun e w' => e = .returned (.int .u64 ((guiltT l).toNat : Int)) ∧ Below w.heap.size w w' := by
  have hmm := run_makeMapG (P := Try.prog) 87
  have HCl := Lib.hid (cloneLk (.slice p n cp) l w h (by omega))
  have HL := Lib.hid hl
  have HN := Lib.hid hn
  clear h hl hn
  go_enter Try.func27, Try.ntmps27
  go_wp2_with fail
  refine HCl.out.mono ?_
  rintro e w1 ⟨v1, rfl, ho, g1⟩
  obtain ⟨p1, c1, rfl⟩ := ownE_len ho HL.out
  have HSo := Lib.hid (sortLinks (.slice p1 n c1) w.heap.size l w1 ho (by have := HL.out; have := HN.out; omega) g1.size)
  have G1 := Lib.hid g1
  clear ho g1 HCl
  go_wp2_with fail
  refine HSo.out.mono ?_
  rintro e w2 ⟨rfl, l', k1, k2, k3, k4, g2⟩
  have HL' : Hid (l'.length = n) := by show _ = n; rw [k1]; exact HL.out
  have HRi := Lib.hid k2
  have HMe := Lib.hid k3
  have HS := Lib.hid k4
  have B2 : Hid (Below w.heap.size w w2) := G1.out.trans g2
  clear k1 k2 k3 k4 g2 G1 HSo
  go_wp2_with fail
  go_loopw [4, 19] (fun gv i wr => ∃ (j : Nat) (g : UInt64) (D : DataW Unit) (m : Nat), j ≤ n ∧ gv = .int .u64 (g.toNat : Int) ∧ i = .int .i64 (j : Int) ∧ (∀ v, v < 64 → StK l' j v g D) ∧ OwnsG wr w2.heap.size m D ∧ m ≤ 64 * j ∧ Below w2.heap.size w2 wr) (fun _ i _ => n - (intOf i).toNat)
  case atStart => exact ⟨0, 0, .map [], 0, Nat.zero_le _, rfl, rfl, fun v _ => stK_zero, World.ownsMap_made _ _ _ _, Nat.zero_le _, below1⟩
  case round =>
    obtain ⟨wo, rfl⟩ : ∃ W : World, W = wr := ⟨_, rfl⟩
    obtain ⟨j, g, D, m, hj, rfl, rfl, hst, hown, hm, hb⟩ := hrel
    have HSt := Lib.hid hst
    have HO := Lib.hid hown
    have HM := Lib.hid hm
    have HB := Lib.hid hb
    clear hst hown hm hb
    by_cases hlt : j < n
    · have HLT := Lib.hid hlt
      have i0 : (0 : Int) ≤ (j : Int) := by omega
      have i1 : (j : Int) < (n : Int) := by omega
      have u1 : (j : Int) + 1 < 10000 := by have := HN.out; omega
      obtain ⟨b1, o1, rfl, q1, x1⟩ := lks_ptr HS.out (by have := HL'.out; omega)
      have X1 := Lib.hid x1
      have Q1 := Lib.hid q1
      have y1 := keep HB.out (lks_ld x1 (i := j) (by have := HL'.out; omega))
      obtain ⟨x, hx⟩ : ∃ x, x = lkAt l' j := ⟨_, rfl⟩
      rw [← hx] at y1
      have HX := Lib.hid hx
      clear hlt x1 q1 hx
      go_upto_region 8 with fail
      obtain ⟨V, hV⟩ : ∃ V, V = wo.alloc (.cells (lk x) 63) := ⟨_, rfl⟩
      rw [← hV]
      have GV : Hid (Below wo.heap.size wo V) := by show Below _ _ _; rw [hV]; exact below1
      have MV : Hid (V.heap[wo.heap.size]? = some (.cells (lk x) 63 (0, 0))) := by show _ = _; rw [hV]; exact heap_alloc_last _ _
      have HLo : Hid (w2.heap.size < wo.heap.size) := HO.out.lt
      obtain ⟨R, hR⟩ : ∃ R, R = wo.heap.size := ⟨_, rfl⟩
      have HRe := Lib.hid hR
      rw [← hR] at MV ⊢
      clear hV y1 hR
      have cm := (lk_v MV.out).m
      have a1 := leftU_bits x.mask g
      obtain ⟨M, hM⟩ : ∃ M, M = leftU x.mask g := ⟨_, rfl⟩
      rw [← hM] at a1
      have HMe2 : Hid (M = leftU (lkAt l' j).mask g) := by show _ = _; rw [hM, HX.out]
      have HWh := Lib.hid (stakeWho M V)
      clear hM
      go_wp2_with fail
      refine HWh.out.mono ?_
      rintro e V1 ⟨u, rfl, hu, gu⟩
      obtain ⟨L, hL⟩ : ∃ L, L = whoT M := ⟨_, rfl⟩
      have HLw : Hid (L = whoT (leftU (lkAt l' j).mask g)) := by show _ = _; rw [hL, HMe2.out]
      have hlen : (whoI M).length = L.length := by rw [hL]; unfold whoI; exact List.length_map ..
      have H64 : Hid (L.length ≤ 64) := by show _ ≤ 64; rw [hL]; exact whoT_len M
      have HLe := Lib.hid hL
      obtain ⟨pu, cu, rfl⟩ := slE_len hu hlen
      have HU := Lib.hid hu
      have HLen := Lib.hid hlen
      replace MV := Lib.hid (blk_keep gu MV.out)
      have GV1 : Hid (Below wo.heap.size wo V1) := belowT GV.out gu
      have HO1 : Hid (OwnsG V1 w2.heap.size m D) := ownsMap_keep GV1.out HO.out
      have HRlt : Hid (R < V1.heap.size) := (Array.getElem?_eq_some_iff.1 MV.out).1
      have HW2 : Hid (w2.heap.size ≤ V1.heap.size) := by show _ ≤ _; have := HRlt.out; have := HLo.out; have := HRe.out; omega
      have HBV : Hid (Below w2.heap.size w2 V1) := HB.out.trans (GV1.out.mono (Nat.le_of_lt HLo.out))
      obtain ⟨nl, hnl⟩ : ∃ nl, nl = L.length := ⟨_, rfl⟩
      have HNl := Lib.hid hnl
      rw [← hnl] at HU ⊢
      clear hL hlen hu gu cm a1 HWh HMe2 GV hnl
      go_wp2_with fail
      go_loopw [4, 30] (fun gv i ur => ∃ (q : Nat) (g' : UInt64) (D' : DataW Unit) (m' : Nat), q ≤ nl ∧ gv = .int .u64 (g'.toNat : Int) ∧ i = .int .i64 (q : Int) ∧ InK l' j L q g' D' ∧ OwnsG ur w2.heap.size m' D' ∧ m' ≤ 64 * j + q ∧ But w2.heap.size V1.heap.size w2.heap.size V1 ur) (fun _ i _ => nl - (intOf i).toNat)
      case atStart => exact ⟨0, g, D, m, Nat.zero_le _, rfl, rfl, inK_start HSt.out, HO1.out, by have := HM.out; omega, But.refl _ _ _ _⟩
      case round =>
        obtain ⟨ur, rfl⟩ : ∃ W : World, W = wr := ⟨_, rfl⟩
        obtain ⟨q, g', D', m', hq, rfl, rfl, hin, hown, hm, hbt⟩ := hrel
        have HIn := Lib.hid hin
        have HO2 := Lib.hid hown
        have HM2 := Lib.hid hm
        have HBt := Lib.hid hbt
        clear hin hown hm hbt
        by_cases hql : q < nl
        · have HQl : Hid (q < L.length) := by show q < L.length; rw [← HNl.out]; exact hql
          have j0 : (0 : Int) ≤ (q : Int) := by omega
          have j1 : (q : Int) < (nl : Int) := by omega
          have u2 : (q : Int) + 1 < 10000 := by have := H64.out; have := HNl.out; omega
          obtain ⟨b2, o2, rfl, q2, x2⟩ := ints_ptr HU.out (by rw [HLen.out]; have := HQl.out; omega)
          have hb2 : b2 ≠ w2.heap.size := by
            rintro rfl
            have h1 := ints_at x2 (i := q) (by rw [HLen.out]; exact HQl.out)
            rw [map_cellG HO1.out] at h1; cases h1
          have y2 := ints_at (rangeAt_block (HBt.out.block b2 q2 hb2) x2) (i := q) (by rw [HLen.out]; exact HQl.out)
          obtain ⟨v, hv⟩ : ∃ v, v = L[q]'HQl.out := ⟨_, rfl⟩
          have hvi : (whoI M).getD q 0 = (v : Int) := by
            rw [whoI_at (by rw [← HLe.out]; exact HQl.out), hv]
            congr 1
            simp only [HLe.out]
          rw [hvi] at y2
          obtain ⟨w1', w2', w3', _⟩ := who_nodup HLw.out HQl.out
          rw [← hv] at w1' w2' w3'
          have H64v := Lib.hid w1'
          obtain ⟨c, Lc, hc⟩ := look_intG HO2.out w1'
          have hnow := inK_now HLw.out (fun v hv => (HSt.out v hv).1) HQl.out HRi.out (by rw [HL'.out]; exact HLT.out) HIn.out
          rw [← hv] at hnow
          have HNow := Lib.hid hnow
          have HV := Lib.hid hv
          have HC := Lib.hid hc
          have MU : Hid (ur.heap[R]? = some (.cells (lk x) 63 (0, 0))) := HBt.out.blk HRlt.out (by have := HLo.out; have := HRe.out; omega) MV.out
          have HBu : Hid (Below w2.heap.size w2 ur) := HBV.out.trans HBt.out.below
          have HVs : Hid (V1.heap.size ≤ ur.heap.size) := HBt.out.below.size
          obtain ⟨is, his⟩ : ∃ is, is = Maps.has D' (kI v) := ⟨_, rfl⟩
          rw [← his] at Lc
          have HIs := Lib.hid his
          clear hql q2 x2 hb2 hv hvi w1' w2' w3' hc hnow his
          cases is
          · have HG : Hid (¬ GuK l' (j + 1) v ∧ g'.toNat.testBit v = false) := by
              show _ ∧ _
              rcases HNow.out with ⟨_, h2⟩ | ⟨a, _, h2, _⟩
              · exact h2
              · rw [← HIs.out] at h2; cases h2
            go_wp2_with fail
            clear Lc y2
            refine wp_region_lex [7] (by kernel_rfl) (by kernel_rfl) (by kernel_rfl) ?_
            repeat (first | (refine wpXL_quiet rfl rfl _ cls_begin ?_; (first | go_big_quiet_step (fail) | quiet_step (fail)); refine wpQuiet_nil ?_) | refine wpXL_skip rfl ?_)
            refine wpXL_nil ?_
            have HO3 : Hid (OwnsG ur.drew w2.heap.size m' D') := HO2.out.drew
            go_wp2_with (at_mapUpdate; refine wpList_mapUpdate_own _ rfl _ _ _ 87 rfl 3 3 keyed_intG Try.underlying87 (plainElem Try.prog 3) w2.heap.size m' _ rfl HO3.out (by have := HM2.out; have := HN.out; have := HLT.out; have := H64.out; have := HQl.out; unfold maxLen; omega) _ _ _ rfl rfl (key_intG H64v.out) _ [] (plainElem_int Try.underlying3 (WalkArith.wf_i64 (by omega))) ?_; intro w5 hown5 hgrow5)
            go_roundw
            case rel => exact ⟨q + 1, g', _, m' + 1, by have := HQl.out; have := HNl.out; omega, rfl, by go_num, by rw [HV.out]; exact inK_next HLw.out HQl.out HO2.out.isMap (fun _ _ => rfl) (by rw [← HV.out]; exact ⟨fun e => (by rw [HG.out.2] at e; cases e), fun e => absurd e HG.out.1⟩) HIn.out, hown5, by have := HM2.out; omega, (HBt.out.then (belowD (Below.refl _ _) 1) HW2.out HVs.out).grownG hgrow5 HVs.out (Nat.le_refl _) HW2.out⟩
            case measure => simp [intOf]; have := HQl.out; have := HNl.out; omega
          · have HG : Hid (∃ a, a < j ∧ c = (a : Int) ∧ (GuK l' (j + 1) v ↔ clashB (lkAt l' a) x = true) ∧ g'.toNat.testBit v = false) := by
              show ∃ a, _
              rcases HNow.out with ⟨h2, _⟩ | ⟨a, h1, h2, h3, h4, h5⟩
              · rw [← HIs.out] at h2; cases h2
              · refine ⟨a, h1, ?_, by rw [HX.out]; exact h4, h5⟩
                have := HC.out.symm.trans h3
                unfold iLk at this
                injection this with this
                injection this
            obtain ⟨a, ha, rfl, hga, hgb⟩ := HG.out
            have HGa := Lib.hid hga
            have HGb := Lib.hid hgb
            have k0 : (0 : Int) ≤ (a : Int) := by omega
            have k1 : (a : Int) < (n : Int) := by have := HLT.out; omega
            have ya := keep HBu.out (lks_ld X1.out (i := a) (by have := HL'.out; have := HLT.out; omega))
            have yb := (lk_v MU.out).a
            have HCl := Lib.hid (fun W => linkClash (lkAt l' a) x W)
            obtain ⟨cl, hcl⟩ : ∃ cl, cl = clashB (lkAt l' a) x := ⟨_, rfl⟩
            rw [← hcl] at HCl
            have HCle := Lib.hid hcl
            obtain ⟨y, hy⟩ : ∃ y, y = lkAt l' a := ⟨_, rfl⟩
            rw [← hy] at ya HCl
            clear ha hga hgb hcl hy HG
            go_wp2_with fail
            clear Lc y2
            have Ya := fun p : Wd ur.drew => wd_ld ya (by decide) p
            have Yb := fun p : Wd ur.drew => wd_ld yb (by decide) p
            clear ya yb
            refine wp_region_lex [7] (by kernel_rfl) (by kernel_rfl) (by kernel_rfl) ?_
            repeat (first | (refine wpXL_quiet rfl rfl _ cls_begin ?_; (first | go_big_quiet_step (fail) | quiet_step (fail)); refine wpQuiet_nil ?_) | refine wpXL_skip rfl ?_)
            refine wpXL_call rfl rfl rfl enters_linkClash #[.agg (lk y), .agg (lk x)] rfl ?_
            refine (HCl.out _).mono ?_
            rintro e u2 ⟨rfl, gu⟩
            refine ⟨_, rfl, gu, ?_⟩
            simp only [Act.put, List.setIfInBounds_toArray, List.set_cons_zero, List.set_cons_succ]
            have GU : Hid (Below ur.heap.size ur u2) := belowT (belowD (Below.refl _ _) 1) gu
            clear gu Ya Yb
            repeat (first | (refine wpXL_quiet rfl rfl _ cls_begin ?_; (first | go_big_quiet_step (fail) | quiet_step (fail)); refine wpQuiet_nil ?_) | refine wpXL_skip rfl ?_)
            refine wpXL_nil ?_
            have HVs2 : Hid (V1.heap.size ≤ u2.heap.size) := Nat.le_trans HVs.out GU.out.size
            cases cl
            · have HO3 : Hid (OwnsG u2 w2.heap.size m' D') := ownsMap_keep GU.out HO2.out
              go_wp2_with (at_mapUpdate; refine wpList_mapUpdate_own _ rfl _ _ _ 87 rfl 3 3 keyed_intG Try.underlying87 (plainElem Try.prog 3) w2.heap.size m' _ rfl HO3.out (by have := HM2.out; have := HN.out; have := HLT.out; have := H64.out; have := HQl.out; unfold maxLen; omega) _ _ _ rfl rfl (key_intG H64v.out) _ [] (plainElem_int Try.underlying3 (WalkArith.wf_i64 (by omega))) ?_; intro w5 hown5 hgrow5)
              go_roundw
              case rel => exact ⟨q + 1, g', _, m' + 1, by have := HQl.out; have := HNl.out; omega, rfl, by go_num, by rw [HV.out]; exact inK_next HLw.out HQl.out HO2.out.isMap (fun _ _ => rfl) (by rw [← HV.out]; exact ⟨fun e => (by rw [HGb.out] at e; cases e), fun e => (by have := HGa.out.1 e; rw [← HCle.out] at this; cases this)⟩) HIn.out, hown5, by have := HM2.out; omega, (HBt.out.then GU.out HW2.out HVs.out).grownG hgrow5 HVs2.out (Nat.le_refl _) HW2.out⟩
              case measure => simp [intOf]; have := HQl.out; have := HNl.out; omega
            · have HBi := Lib.hid (fun W => stakeBitG v W)
              have ao := k_or g' (bitK (v : Int))
              obtain ⟨g2, hg2⟩ : ∃ g2, g2 = g' ||| bitK (v : Int) := ⟨_, rfl⟩
              rw [← hg2] at ao
              have HG2 := Lib.hid hg2
              generalize hbv : bitK (v : Int) = bv at ao HBi
              clear hg2 hbv
              go_wp2_with fail
              refine (HBi.out u2).mono ?_
              rintro e u3 ⟨rfl, gu⟩
              replace GU := Lib.hid (belowT GU.out gu)
              replace HVs2 : Hid (V1.heap.size ≤ u3.heap.size) := Nat.le_trans HVs.out GU.out.size
              clear gu
              have HO3 : Hid (OwnsG u3 w2.heap.size m' D') := ownsMap_keep GU.out HO2.out
              go_wp2_with (at_mapUpdate; refine wpList_mapUpdate_own _ rfl _ _ _ 87 rfl 3 3 keyed_intG Try.underlying87 (plainElem Try.prog 3) w2.heap.size m' _ rfl HO3.out (by have := HM2.out; have := HN.out; have := HLT.out; have := H64.out; have := HQl.out; unfold maxLen; omega) _ _ _ rfl rfl (key_intG H64v.out) _ [] (plainElem_int Try.underlying3 (WalkArith.wf_i64 (by omega))) ?_; intro w5 hown5 hgrow5)
              go_roundw
              case rel => exact ⟨q + 1, g2, _, m' + 1, by have := HQl.out; have := HNl.out; omega, by first | rfl | simp, by go_num, by rw [HV.out]; exact inK_next HLw.out HQl.out HO2.out.isMap (fun k hk => by rw [HG2.out]; exact or_other H64v.out (by rw [HV.out]; exact hk)) (by rw [← HV.out]; exact ⟨fun _ => HGa.out.2 HCle.out.symm, fun _ => by rw [HG2.out]; exact or_self H64v.out⟩) HIn.out, hown5, by have := HM2.out; omega, (HBt.out.then GU.out HW2.out HVs.out).grownG hgrow5 HVs2.out (Nat.le_refl _) HW2.out⟩
              case measure => simp [intOf]; have := HQl.out; have := HNl.out; omega
        · obtain rfl : q = nl := by omega
          go_wp2_with fail
          go_roundw
          case rel => exact ⟨j + 1, g', D', m', HLT.out, rfl, by go_num, inK_end HLw.out (fun v hv => (HSt.out v hv).1) (by rw [← HNl.out]; exact HIn.out), HO2.out, by have := HM2.out; have := H64.out; have := HNl.out; omega, HBV.out.trans HBt.out.below⟩
          case measure => simp [intOf]; have := HLT.out; omega
    · obtain rfl : j = n := by omega
      have HE : Hid (g = guiltT l) := guilt_is HMe.out (by rw [HL'.out]; exact HSt.out)
      go_wp2_with fail
      go_ret
      exact ⟨by rw [HE.out]; first | done | rfl, B2.out.trans (HB.out.mono B2.out.size)⟩
theorem linkGuilty (u : Value) (l : List Lk) (w : World) (h : SlE Elk w u l) (hn : l.length ≤ 1000) :
    Calls Try.prog 27 #[u] w fun e w' => e = .returned (.int .u64 ((guiltT l).toNat : Int)) ∧ Below w.heap.size w w' := by
  have k := h
  obtain ⟨p, cl, rfl, _⟩ := slE_shape h
  exact progLinkGuilty_n p _ cl l w k rfl hn
end Go.Proofs.Ytlhnjaeocoafnaa
namespace Go.Proofs.Ytlhnjaeocoafnaa
open Go.RowKit
set_option maxRecDepth 100000

theorem beside16 : Beside16 where
  tmay := treeMay
  find := treeFind
  above := treeAbove
  lmay := linkMay
  guilty := linkGuilty
  smay := stakeMay
  some := stakeSome
end Go.Proofs.Ytlhnjaeocoafnaa
namespace Go.Proofs.Ytlhnjaeocoafnaa
open Go.RowKit
set_option maxRecDepth 100000
open Go.WideShapes Go.ChangeShapes
variable {H : Type} {enc : TypeId × Value → H} {w : World} {base : Nat} {sp : Nat → Bool} {held : Bool}

theorem bytes_num : Try.prog.bytesOf 28 = 8 := by kernel_rfl
theorem nums_room {v : Value} {d : DataW H} {ps : List MemPlace} (hd : DataW.Trod enc Try.prog w base sp held 26 v d ps) (hw : ∀ n ∈ d.weights Try.prog 26, n ≤ reachBytes) {p : Option Addr} {k c : Nat} (e0 : v = .slice p k c) : k ≤ 1152921504606846976 := by
  subst e0
  obtain ⟨fuel, hf⟩ := hd
  have hf' : DataW.trod enc Try.prog w base sp held fuel 26 [.slice p k c] = some (d, ps) := hf
  rcases Deep.open_slice Try.underlying26 hf' with ⟨h1, _⟩ | ⟨a', len', cap', mm, nn, D, Pl, h1, _, hl, hm, hmm, hy, _⟩
  · have e : Value.slice p k c = .slice none 0 0 := (List.cons.inj h1).1
    injection e with _ e2 _
    omega
  · have e : Value.slice p k c = .slice (some a') len' cap' := (List.cons.inj h1).1
    injection e with _ e2 _
    have hy1 : d = .slice ((List.range len').map D) ((List.range (mm - len')).map fun j => D (len' + j)) := congrArg Prod.fst hy
    have hmem := hw ((((List.range len').map D).length + ((List.range (mm - len')).map fun j => D (len' + j)).length) * Try.prog.bytesOf 28) (by
      rw [hy1]
      unfold DataW.weights
      rw [Try.underlying26]
      simp)
    rw [bytes_num] at hmem
    simp only [List.length_map, List.length_range, reachBytes] at hmem
    omega
end Go.Proofs.Ytlhnjaeocoafnaa
