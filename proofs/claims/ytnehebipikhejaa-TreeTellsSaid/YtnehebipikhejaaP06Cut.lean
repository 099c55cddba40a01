/-
  Package tree: Cut, walked: for each node a loop over its line.
-/
import Derived.Test.YtnehebipikhejaaP06Above
import Derived.Test.YtnehebipikhejaaP06Find
import Derived.Test.YtnehebipikhejaaP06Clone
import Derived.Test.YtnehebipikhejaaTreeIs
import Derived.Test.YtnehebipikhejaaCutT
import Derived.Test.YtnehebipikhejaaTn
import Derived.WalkMore
namespace Go.Proofs.Ytnehebipikhejaa
open Go.RowKit Go.Shelf Go.Maps

attribute [local go_sem] Oper.semAt_some
@[local go_sem ↓] theorem semAt_run {P : Program} (l : Option Nat) (ρ : Operand → Value) (o : Oper) (w : World) (h : ∀ c, o.op ≠ .defer c) : (Oper.semAt l ρ o).run P w = (execOp ρ o).run P w := by rw [Oper.semAt_eq l ρ o h]

set_option maxRecDepth 100000 in
set_option maxHeartbeats 4000000 in
theorem treeCut_no (s : SlV) (l : List Nd) (i : Int) (w : World) (h : SlE Ene w (sv s) l) (hk : isT l i = false) :
    Calls Try.prog 17 #[.agg (tr ⟨s⟩), .int .i64 i] w (TreeIs [] w) := by
  have HP := Lib.hid (fun W (g : Below w.heap.size w W) => treePlace s l i W (slE_keep g h))
  rw [hk] at HP
  obtain ⟨W0, hW0⟩ : ∃ W0, W0 = ((w.alloc (.cells (tr ⟨s⟩) 24)).alloc (.cells #[.int .i64 i] 3)).alloc (.cells (tr ztr) 24) := ⟨_, rfl⟩
  obtain ⟨hB, h0, h1, h2, hz⟩ := heap3 w _ _ _ _ _ _ W0 hW0
  have HB := Lib.hid hB
  have H0 := Lib.hid h0
  have H1 := Lib.hid h1
  have H2 := Lib.hid h2
  have HW := Lib.hid hW0
  clear hW0 h hk hB h0 h1 h2 hz
  go_enter Try.func17, Try.ntmps17
  go_wp2_with fail
  go_step3
  go_wp2_with fail
  rw [← HW.out]
  refine (HP.out W0 HB.out).mono ?_
  rintro e w1 ⟨rfl, g1⟩
  have G1 := Lib.hid (belowT HB.out g1)
  have N2 := Lib.hid (blk_keep g1 H2.out)
  have q2 := wrA_block N2.out (tr_size _)
  clear g1
  go_wp2_with fail
  (try rw [Exit.noGoto_ret])
  exact bodyPost_ret (results_agg1 Try.isAgg24 Try.sizeOf24 _ 4 rfl _ _ _ _ rfl (put_whole' N2.out (tr_size _) (tr_size ztr))) rfl ⟨⟨none, 0, 0⟩, rfl, slE_nil _ _ _ _, below_stA G1.out (by omega)⟩

/-- The memory of Cut's loop. -/
structure CutM (l : List Nd) (i base bo bm bx j : Nat) (s : SlV) (W : World) : Prop where
  mp : W.ownsMap Try.prog 3 (plainElem Try.prog 3) bm (j + 1) (movD l i j)
  bxh : W.heap[bx]? = some (.cells #[.map (some bm)] 58 (0, 0))
  out : W.heap[bo]? = some (.cells (tr ⟨s⟩) 24 (0, 0))
  own : OwnE Ene W base (sv s) (cutUp l i j)
theorem CutM.tn {l : List Nd} {i base bo bm bx j : Nat} {s : SlV} {W W' : World} {bs : Nat → Prop} (h : CutM l i base bo bm bx j s W) (t : Tn bs W W') (h1 : ¬ bs bm) (h2 : ¬ bs bx) (h3 : ¬ bs bo) (h4 : ∀ k, (sv s).ownBlock = some k → ¬ bs k) : CutM l i base bo bm bx j s W' :=
  ⟨t.map h.mp h1, t.heap h.bxh h2, t.heap h.out h3, t.own h.own h4⟩
theorem CutM.below {l : List Nd} {i base bo bm bx j : Nat} {s : SlV} {W W' : World} (h : CutM l i base bo bm bx j s W) (g : Below W.heap.size W W') : CutM l i base bo bm bx j s W' :=
  h.tn (Tn.of_below (fun _ => False) g) id id id (fun _ _ => id)

set_option maxRecDepth 100000 in
set_option maxHeartbeats 8000000 in
theorem treeCut_yes (b1 o1 n cp : Nat) (l : List Nd) (i : Nat) (w : World) (h : SlE Ene w (.slice (some ⟨b1, o1, none⟩) n cp) l) (hb1 : b1 < w.heap.size) (hx1 : w.rangeAt b1 o1 (cellsE Ene l)) (hl : l.length = n) (hm : MayT l) (hi : i < n) :
    Calls Try.prog 17 #[.agg (tr ⟨⟨some ⟨b1, o1, none⟩, n, cp⟩⟩), .int .i64 (i : Int)] w (TreeIs (cutL l i) w) := by
  have HP : Hid (∀ W, Below w.heap.size w W → Calls Try.prog 34 #[.agg (tr ⟨⟨some ⟨b1, o1, none⟩, n, cp⟩⟩), .int .i64 (i : Int)] W fun e w' => e = .returned (.bool true) ∧ Below W.heap.size W w') := fun W g => by
    have := treePlace ⟨some ⟨b1, o1, none⟩, n, cp⟩ l i W (slE_keep g h)
    rwa [isT_nat hm (by omega)] at this
  have HX := Lib.hid hx1
  have HL := Lib.hid hl
  have HM := Lib.hid hm
  have HI := Lib.hid hi
  have HQ := Lib.hid hb1
  have HN : Hid (n ≤ 12) := by show n ≤ 12; have := hm.le; omega
  obtain ⟨W0, hW0⟩ : ∃ W0, W0 = ((w.alloc (.cells (tr ⟨⟨some ⟨b1, o1, none⟩, n, cp⟩⟩) 24)).alloc (.cells #[.int .i64 (i : Int)] 3)).alloc (.cells (tr ztr) 24) := ⟨_, rfl⟩
  obtain ⟨hB, h0, h1, h2, hz⟩ := heap3 w _ _ _ _ _ _ W0 hW0
  have HB := Lib.hid hB
  have H0 := Lib.hid h0
  have H1 := Lib.hid h1
  have H2 := Lib.hid h2
  have HZ := Lib.hid hz
  have HW := Lib.hid hW0
  have hmm := @run_makeMap Try.prog
  clear hW0 h hx1 hl hm hi hb1 hB h0 h1 h2 hz
  refine callsIn_wide.1 (callsIn_of_wp_marks (n := 3) Try.func17 rfl trivial (wpIn_wide.2 ?_))
  simp only [Try.ntmps17, List.size_toArray, List.length_cons, List.length_nil, Nat.reduceAdd, Nat.reduceSub, Array.replicate_succ, Array.replicate_zero, List.push_toArray, List.append_toArray, List.nil_append, List.cons_append]
  go_wp2_with fail
  go_step3
  go_wp2_with fail
  rw [← HW.out]
  refine (HP.out W0 HB.out).mono ?_
  rintro e w1 ⟨rfl, g1⟩
  have G1 := Lib.hid (belowT HB.out g1)
  have K0 := Lib.hid (blk_keep g1 H0.out)
  have K1 := Lib.hid (blk_keep g1 H1.out)
  have K2 := Lib.hid (blk_keep g1 H2.out)
  have HS1 : Hid (w.heap.size + 3 ≤ w1.heap.size) := by show _ ≤ _; have := g1.size; have := HZ.out; omega
  obtain ⟨y0, _, yl⟩ := tr_cells K0.out
  dsimp only at y0
  rw [sv_mk] at y0
  clear g1
  have HMD : Hid (((w1.alloc (.cells (tr ztr) 24)).alloc (.map #[] 0)).ownsMap Try.prog 3 (plainElem Try.prog 3) (w1.heap.size + 1) 0 (.map [] : DataW Unit)) := by
    have := World.ownsMap_made (H := Unit) (w1.alloc (.cells (tr ztr) 24)) Try.prog 3 (plainElem Try.prog 3)
    rwa [World.size_alloc] at this
  go_wp2_with (refine wpList_insert_own _ rfl _ _ _ 58 rfl 3 3 keyed_int Try.underlying58 (plainElem Try.prog 3) (w1.heap.size + 1) 0 (.map []) rfl HMD.out (by decide) _ _ (iK (-1)) rfl rfl (key_small (by omega)) (iV (-1)) [] (plainElem_int Try.underlying3 (by decide)) ?_; intro w2 hown2 hgrow2)
  obtain ⟨bx, hbx⟩ : ∃ bx, bx = w2.heap.size := ⟨_, rfl⟩
  obtain ⟨bo, hbo⟩ : ∃ bo, bo = w1.heap.size := ⟨_, rfl⟩
  obtain ⟨bm, hbm⟩ : ∃ bm, bm = w1.heap.size + 1 := ⟨_, rfl⟩
  obtain ⟨W3, hW3⟩ : ∃ W3, W3 = w2.alloc (.cells #[.map (some (w1.heap.size + 1))] 58) := ⟨_, rfl⟩
  have hg2 := hgrow2.size
  simp only [World.size_alloc] at hg2
  have hB3 : Below w1.heap.size w1 W3 := by
    rw [hW3]
    exact (((below1 (w := w1)).trans ((below1 (w := w1.alloc _)).mono (by simp))).grown hgrow2 (by simp; omega) (fun k hk => by cases hk; omega)).alloc (by omega) _
  have hO3 : W3.heap[bo]? = some (.cells (tr ztr) 24 (0, 0)) := by
    have e0 := blk_keep (below1 (w := w1.alloc (.cells (tr ztr) 24)) (o := .map #[] 0)) (heap_alloc_last w1 (.cells (tr ztr) 24 (0, 0)))
    have e1 := (hgrow2.block w1.heap.size (by simp; omega) (by intro e; injection e with e; omega)).trans e0
    rw [hW3, hbo]
    exact blk_keep below1 e1
  have CM0 : Hid (CutM l i W3.heap.size bo bm bx 0 ⟨none, 0, 0⟩ W3) := by
    refine ⟨?_, ?_, hO3, ownE_nil _ _ _⟩
    · rw [hW3, hbm]; exact hown2.alloc _
    · rw [hW3, hbx, hbm]; exact heap_alloc_last w2 _
  have HS3 : Hid (W3.heap.size = bx + 1 ∧ bm = bo + 1 ∧ bo = w1.heap.size ∧ bm < bx) := by
    refine ⟨by rw [hW3, hbx]; exact World.size_alloc _ _, by omega, hbo, by omega⟩
  have HB3 := Lib.hid hB3
  rw [← hW3, ← hbm, ← hbx, ← hbo]
  clear hB3 hO3 hW3 hown2 hgrow2 hg2 HMD hmm hbx hbo hbm
  go_step3
  clear y0 yl
  obtain ⟨y0, _, yl⟩ := tr_cells (blk_keep HB3.out K0.out)
  dsimp only at y0
  rw [sv_mk] at y0
  go_wp2_with fail
  refine wp_loop (fun a W => ∃ (j : Nat) (s : SlV) (u7 u8 u21 u22 u23 u24 u25 u26 u27 u48 u49 u50 : Value) (ds : List Nat), j ≤ n ∧ CutM l i W3.heap.size bo bm bx j s W ∧ Below w1.heap.size w1 W ∧ W3.heap.size ≤ W.heap.size ∧ (∀ D ∈ ds, W.heap[D]? = some (.deferred (some [])) ∧ W3.heap.size ≤ D) ∧ ds.Nodup ∧
      a = { tmps := #[.agg (tr ⟨⟨some ⟨b1, o1, none⟩, n, cp⟩⟩), .int .i64 (i : Int), .pointer (some ⟨w.heap.size, 0, none⟩), .pointer (some ⟨w.heap.size + 1, 0, none⟩), .pointer (some ⟨w.heap.size + 1 + 1, 0, none⟩), .pointer (some ⟨bo, 0, none⟩), .pointer (some ⟨bx, 0, none⟩), u7, u8, undef, .agg (tr ⟨⟨some ⟨b1, o1, none⟩, n, cp⟩⟩), .int .i64 (i : Int), .bool true, .bool false, undef, .map (some bm), .map (some bm), .pointer (some ⟨w.heap.size, 0, none⟩), .slice (some ⟨b1, o1, none⟩) n cp, .int .i64 (n : Int), .int .i64 (j : Int), u21, u22, u23, u24, u25, u26, u27, undef, undef, undef, undef, undef, undef, undef, undef, undef, undef, undef, undef, undef, undef, undef, undef, undef, undef, undef, undef, u48, u49, u50, undef], defers := ds.map mkD })
    (fun a _ => n - (intOf (a.tmps.getD 20 undef)).toNat) ?start ?round
  case start =>
    exact ⟨0, ⟨none, 0, 0⟩, _, _, _, _, _, _, _, _, _, _, _, _, [], Nat.zero_le _, CM0.out, HB3.out, Nat.le_refl _, fun D hD => (by cases hD), List.nodup_nil, rfl⟩
  case round =>
    rintro a wr ⟨j, s, u7, u8, u21, u22, u23, u24, u25, u26, u27, u48, u49, u50, ds, hj, hcm, hbw, hsz, hds, hnd, rfl⟩
    have HJ := Lib.hid hj
    have HCM := Lib.hid hcm
    have HBW := Lib.hid hbw
    have HSZ := Lib.hid hsz
    have HDS := Lib.hid hds
    have HND := Lib.hid hnd
    clear y0 yl hj hcm hbw hsz hds hnd CM0
    obtain ⟨y0, y1, yl⟩ := tr_cells (blk_keep HBW.out K0.out)
    dsimp only at y0
    rw [sv_mk] at y0
    by_cases hlt : j < n
    · have i0 : (0 : Int) ≤ (j : Int) := by omega
      have i1 : (j : Int) < (n : Int) := by omega
      have u1 : (j : Int) + 1 < 10000 := by have := HN.out; omega
      have hmu : n - (intOf (Value.int .i64 (j : Int))).toNat = n - j := by simp [intOf]
      have HMU := Lib.hid hmu
      have HJN := Lib.hid hlt
      obtain ⟨x, hx⟩ : ∃ x, x = nd l j := ⟨_, rfl⟩
      have x0 := keep HBW.out (show ldA w1 (.pointer (some ⟨b1, o1 + j * 35, none⟩)) 35 = some (ne (nd l j)) from nds_ld (keepR G1.out HX.out) (by have := HL.out; omega))
      rw [← hx] at x0
      have HXx := Lib.hid hx
      clear hx hmu hlt
      go_wp2_with fail
      obtain ⟨W5, hW5⟩ : ∃ W5, W5 = (wr.alloc (.cells #[.int .i64 (j : Int)] 3)).alloc (.cells (ne x) 47) := ⟨_, rfl⟩
      obtain ⟨hB5, hk5, hn5, hz5⟩ := heap2 wr _ _ _ _ W5 hW5
      rw [← hW5]
      refine (treeLine _ _ _).mono ?_
      rintro e w6 ⟨rfl, hw6⟩
      obtain ⟨hB6, hT6, hC6, hz6⟩ := heap2 W5 _ _ _ _ w6 hw6
      have HG6 := Lib.hid (belowT hB5 hB6)
      have HK6 := Lib.hid (blk_keep hB6 hk5)
      have HN6 := Lib.hid (blk_keep hB6 hn5)
      have HT6 := Lib.hid hT6
      have HC6 := Lib.hid hC6
      have HZ5 := Lib.hid hz5
      have HZ6 := Lib.hid hz6
      have HCM6 := Lib.hid (HCM.out.below (belowT hB5 hB6))
      clear hW5 hB5 hk5 hn5 hz5 hw6 hB6 hT6 hC6 hz6 y0 y1 yl x0
      go_wp2_with fail
      refine (wpIn_wide (n := 3)).1 ?_
      have HB1 : Hid (Below w1.heap.size w1 w6) := HBW.out.trans (HG6.out.mono HBW.out.size)
      have HWw : Hid (Below w.heap.size w w6) := belowT G1.out HB1.out
      refine wpIn_rangeFunc_ownG (w0 := w6) rfl (by omega) (gf := 40) (lb := #[.pointer (some ⟨W5.heap.size + 1, 0, none⟩), .pointer (some ⟨W5.heap.size, 0, none⟩)]) rfl trivial (entersE Try.func40 (by kernel_rfl) (by kernel_rfl))
        (line_stops Fence.wide 2 trivial rfl (by omega) (W5.heap.size + 1) W5.heap.size b1 o1 n cp w6.heap.size l j w6 HM.out HL.out HJN.out
          (cell_of_box HC6.out).1 HT6.out (keepR HWw.out HX.out) (by have := HZ6.out; omega) (by have := HZ6.out; omega) (by have := HQ.out; have := HWw.out.size; have := HS1.out; have := HBW.out.size; have := HG6.out.size; omega) (Nat.le_refl _))
        belowK_t (belowK_b (Nat.le_refl _)) (Below.refl _ _) (fun _ => rfl)
        (fun pre W => (∀ y ∈ pre, y.1 ≠ i) ∧ Below w6.heap.size w6 W)
        (fun c pre W => (c = .exit 1 ∧ keptB l i j = true) ∧ (∃ s' : SlV, CutM l i W3.heap.size bo bm bx (j + 1) s' W) ∧ Below w1.heap.size w1 W ∧ W3.heap.size ≤ W.heap.size ∧ (∀ D ∈ ds, W.heap[D]? = some (.deferred (some []))))
        (own_go _ (Nat.le_refl _)) (fun c => ?ownx)
        ⟨fun _ h => absurd h List.not_mem_nil, Below.refl _ _⟩ ?a1 ?assign ?body ?done ?stop
      case ownx =>
        refine ownFrom_tn fun pre W W' bs ⟨h1, ⟨s', h2⟩, h3, h4, h5⟩ t hbs => ?_
        have hlo : ∀ k, k < w6.heap.size → ¬ bs k := fun k hk e => by have := (hbs k e).1; omega
        have q1 := (Array.getElem?_eq_some_iff.1 HCM6.out.bxh).1
        have q2 := (Array.getElem?_eq_some_iff.1 HCM6.out.out).1
        have q3 := HCM6.out.mp.lt
        refine ⟨h1, ⟨s', h2.tn t (hlo _ q3) (hlo _ q1) (hlo _ q2) (fun k hk e => ?_)⟩, t.below h3 (fun k e => ?_) (Nat.le_trans (Nat.le_refl _) h3.size), Nat.le_trans h4 t.size, fun D hD => t.heap (h5 D hD) (hlo _ ?_)⟩
        · obtain ⟨_, o, ho, hc⟩ := hbs k e
          rw [own_cells h2.own hk ho] at hc
          cases hc
        · have := (hbs k e).1
          have := HB1.out.size
          omega
        · have := (Array.getElem?_eq_some_iff.1 (HDS.out D hD).1).1
          have := HG6.out.size
          omega
      case assign =>
        intro lo x W K hK
        gi_wp2
        exact hK
      case body =>
        rintro lo pre ⟨y, hy⟩ W ⟨hp, hB⟩ hlen
        have HP := Lib.hid hp
        have HBW6 := Lib.hid hB
        have c3 := (cell_of_box (blk_keep (belowT HB1.out hB) K1.out)).1
        by_cases he : i = y
        · subst he
          have hkp : keptB l i j = true := kept_iff.2 ⟨by have := HL.out; have := HJN.out; omega, (line_mem HM.out i j (by have := HL.out; have := HJN.out; omega)).1 hy⟩
          have N6 := Lib.hid (blk_keep HBW6.out HN6.out)
          have K6 := Lib.hid (blk_keep HBW6.out HK6.out)
          obtain ⟨sp, sn, sc⟩ := s
          have CM := Lib.hid (HCM6.out.below HBW6.out)
          have HR : Hid ((cutUp l i j).length = sn) := sv_lenN (ownE_slE CM.out.own)
          have HKP := Lib.hid hkp
          have HO : Hid (∀ k, (Value.slice sp sn sc).ownBlock = some k → W3.heap.size ≤ k ∧ k < wr.heap.size) := fun k hk => ownE_lt HCM.out.own hk
          have m0 := (cell_of_box CM.out.bxh).1
          have k0 := (cell_of_box K6.out).1
          obtain ⟨s0, _, _⟩ := tr_cells CM.out.out
          dsimp only at s0
          rw [sv_mk] at s0
          have HSN : Hid (sn ≤ j) := by show sn ≤ j; have h1 := cutUp_le l i j; have h2 := HR.out; omega
          clear hp hB hlen
          have HPR := Lib.hid (mov_parent HM.out (by have := HL.out; have := HI.out; omega) hkp (.lit (.int .i64 0)) (by have := HL.out; have := HN.out; omega))
          clear hkp
          gi_wp2_with (first
            | (gi_at_mapUpdate
               refine wpListIn_mapUpdate_own _ rfl _ _ _ 58 rfl 3 3 keyed_int Try.underlying58 (plainElem Try.prog 3) bm (j + 1) _ rfl CM.out.mp (by unfold maxLen; have := HJ.out; have := HN.out; omega) _ _ _ rfl rfl (key_small (by have := HJ.out; have := HN.out; omega)) _ [] (plainElem_int Try.underlying3 (wf_small (by have := HJ.out; have := HN.out; have := HSN.out; omega))) ?_
               intro v1 hown1 hgrow1
               have M1 : Hid (v1.ownsMap Try.prog 3 (plainElem Try.prog 3) bm (j + 2) (movD l i (j + 1))) := by
                 show World.ownsMap _ _ _ _ _ _ _
                 have e1 : movV l i j = (sn : Int) := by
                   unfold movV
                   rw [if_pos HKP.out, ← cutUp_len, HR.out]
                 unfold movD
                 rw [e1]
                 exact hown1
               have T1 : Hid (Tn (· = bm) W v1) := Tn.of_grown hgrow1 (fun k e => by cases e; rfl)
               have q1 := (cell_of_box (T1.out.heap CM.out.bxh (by have := HS3.out; omega))).1
               have q2 := (ne_cells (T1.out.heap N6.out (by have := HS3.out; have := HSZ.out; omega))).2.1
               have q5 := not_frozen (T1.out.heap N6.out (by have := HS3.out; have := HSZ.out; omega)) 32
               clear hown1 hgrow1)
            | (gi_at_lookup
               go_loud (
               refine wpListIn_lookup_own_int _ rfl _ _ 58 rfl 3 3 .i64 keyed_int Try.underlying58 Try.underlying3 (zero_intE _) bm (j + 2) _ rfl M1.out _ _ rfl (key_small (by have := HPR.out; rw [HXx.out]; omega)) ?_
               intro c hat hwc
               have HC := Lib.hid hat
               have N7 := Lib.hid (T1.out.heap N6.out (by have := HS3.out; have := HSZ.out; omega))
               have T2 : Hid (Tn (fun k => k = bm ∨ k = wr.heap.size + 1 ∨ k = bo ∨ (Value.slice sp sn sc).ownBlock = some k) W (v1.setCell ⟨wr.heap.size + 1, 32, none⟩ (.int .i64 c))) := (T1.out.mono (fun k e => .inl e)).trans (Tn.setCell _ _ _ (.inr (.inl rfl)))
               have N8 : Hid ((v1.setCell ⟨wr.heap.size + 1, 32, none⟩ (.int .i64 c)).heap[wr.heap.size + 1]? = some (.cells (ne { x with parent := c }) 47 (0, 0))) := by
                 show _ = _
                 rw [heap_setCell_same N7.out, ne_set_parent]
               have B8 : Hid ((v1.setCell ⟨wr.heap.size + 1, 32, none⟩ (.int .i64 c)).heap[bo]? = some (.cells (tr ⟨⟨sp, sn, sc⟩⟩) 24 (0, 0))) := by
                 show _ = _
                 rw [Below.heap_setCell _ _ _ _ (by show bo ≠ wr.heap.size + 1; have := HS3.out; have := HSZ.out; omega)]
                 exact T1.out.heap CM.out.out (by have := HS3.out; omega)
               have q3 := ldA_block N8.out (ne_size _)
               have q4 := (tr_cells B8.out).1
               dsimp only at q4
               rw [sv_mk] at q4
               have O8 : Hid (OwnE Ene (v1.setCell ⟨wr.heap.size + 1, 32, none⟩ (.int .i64 c)) W3.heap.size (.slice sp sn sc) (cutUp l i j)) :=
                 ((Tn.setCell (bs := (· = wr.heap.size + 1)) v1 32 (.int .i64 c) rfl).own (T1.out.own CM.out.own (fun k hk e => by have := HO.out k hk; have := HS3.out; omega)) (fun k hk e => by have := HO.out k hk; omega))
               clear hat hwc))
            | (gi_at_builtin
               go_loud (
               refine wpListIn_append_B KneB _ rfl (.tmp 43) (.tmp 45) rfl W3.heap.size _ (cutUp l i j) rfl (ownE_alloc O8.out _) _ [{ x with parent := c }] rfl (slE_lit _ [{ x with parent := c }] 1 _ _ _ rfl (by simp) (by simp [cellsE, Ene, ne_list])) (by have := HR.out; have := HSN.out; have := HJ.out; have := HN.out; simp [maxLen]; omega) (by have := HR.out; have := HSN.out; have := HJ.out; have := HN.out; simp; omega) (by have := T1.out.size; have := HBW6.out.size; have := HZ6.out; have := HZ5.out; have := HSZ.out; simp; omega) ?_
               intro v' w' ho' hgr'
               obtain ⟨vp, vc, hv⟩ := ownE_len ho' (n := sn + 1) (by rw [List.length_append, HR.out]; rfl)
               rw [hv] at ho' hgr' ⊢
               clear hv
               have HO' := Lib.hid ho'
               have T3 : Hid (Tn (fun k => k = bm ∨ k = wr.heap.size + 1 ∨ k = bo ∨ (Value.slice sp sn sc).ownBlock = some k) W w') := T2.out.trans ((Tn.alloc _ _ _).trans (Tn.of_grown hgr'.1 (fun k e => .inr (.inr (.inr e)))))
               have B9 : Hid (w'.heap[bo]? = some (.cells (tr ⟨⟨sp, sn, sc⟩⟩) 24 (0, 0))) := hgr'.heap (blk_keep below1 B8.out) (fun e => by have := HO.out _ e; have := HS3.out; omega)
               have HMP : Hid (w'.ownsMap Try.prog 3 (plainElem Try.prog 3) bm (j + 2) (movD l i (j + 1))) :=
                 (Tn.of_grown (bs := fun k => (Value.slice sp sn sc).ownBlock = some k) hgr'.1 (fun k e => e)).map ((Tn.alloc (· = wr.heap.size + 1) _ _).map ((Tn.setCell (bs := (· = wr.heap.size + 1)) v1 32 (.int .i64 c) rfl).map M1.out (by have := HS3.out; have := HSZ.out; omega)) (by have := HS3.out; have := HSZ.out; omega)) (fun e => by have := HO.out _ e; have := HS3.out; omega)
               have q6 := (tr_cells B9.out).1
               dsimp only at q6
               rw [sv_mk] at q6
               have q7 := not_frozen B9.out 0
               clear ho' hgr')))
          have T4 : Hid (Tn (fun k => k = bm ∨ k = wr.heap.size + 1 ∨ k = bo ∨ (Value.slice sp sn sc).ownBlock = some k) W (w'.setCell ⟨bo, 0, none⟩ (.slice vp (sn + 1) vc))) := T3.out.trans (Tn.setCell _ _ _ (.inr (.inr (.inl rfl))))
          have e1 : c = (cutN l i j).parent := by
            have h1 := HPR.out.1
            rw [← HXx.out] at h1
            have h2 := h1.symm.trans HC.out
            unfold iV at h2
            injection h2 with h3
            injection h3 with _ h4
            exact h4.symm
          have e2 : cutN l i j = { x with parent := c } := by rw [e1, HXx.out]; rfl
          have E2 := Lib.hid e2
          clear e1 e2
          refine ⟨keepsFrom_tn T4.out fun k hk => ?_, ⟨rfl, HKP.out⟩, ⟨⟨vp, sn + 1, vc⟩, ?_, ?_, ?_, ?_⟩, ?_, ?_, ?_⟩
          · left
            have := HS3.out; have := HSZ.out; have := HZ5.out; have := HZ6.out
            rcases hk with h | h | h | h
            · omega
            · omega
            · omega
            · have := HO.out k h; omega
          · exact (Tn.setCell (bs := (· = bo)) w' 0 _ rfl).map HMP.out (by have := HS3.out; omega)
          · refine T4.out.heap CM.out.bxh fun hk => ?_
            have := HS3.out; have := HSZ.out
            rcases hk with h | h | h | h
            · omega
            · omega
            · omega
            · have := HO.out bx h; omega
          · rw [heap_setCell_same B9.out]
            congr 2
            exact tr_set_n _ ⟨vp, sn + 1, vc⟩
          · rw [cutUp_yes HKP.out, E2.out]
            exact ownE_set HO'.out (by have := HS3.out; omega) _
          · refine T4.out.below (HB1.out.trans (HBW6.out.mono HB1.out.size)) (fun k hk => ?_) (by have := HB1.out.size; have := HBW6.out.size; omega)
            have := HS3.out; have := HSZ.out
            rcases hk with h | h | h | h
            · omega
            · omega
            · omega
            · have := HO.out k h; omega
          · have := T4.out.size; have := HBW6.out.size; have := HZ6.out; have := HZ5.out; have := HSZ.out; omega
          · intro D hD
            have hd := HDS.out D hD
            have hl := (Array.getElem?_eq_some_iff.1 hd.1).1
            refine T4.out.heap (blk_keep HBW6.out (blk_keep HG6.out hd.1)) fun hk => ?_
            have := HS3.out
            rcases hk with h | h | h | h
            · omega
            · omega
            · omega
            · have := own_cells HCM.out.own h hd.1
              cases this
        · have t1 : ((y : Int) == (i : Int)) = false := by simp; omega
          have HE : Hid (y ≠ i) := fun e => he e.symm
          clear hp hB hlen he
          gi_wp2
          exact ⟨KeepsFrom.refl _ _, Below.refl _ _, fun z hz => by
            rcases List.mem_append.1 hz with h | h
            · exact HP.out z h
            · rw [List.mem_singleton] at h; subst h; exact HE.out, HBW6.out⟩
      case done =>
        rintro D ys W hD hys ⟨hp, hB⟩ hK
        have hX : keptB l i j = false := by
          rw [← Bool.not_eq_true]
          intro ha
          have hin := (line_mem HM.out i j (by have := HL.out; have := HJN.out; omega)).2 (kept_iff.1 ha).2
          rw [← hys] at hin
          obtain ⟨y, hy, e⟩ := List.mem_map.1 hin
          exact hp y hy e
        have HX' := Lib.hid hX
        have HKD := Lib.hid hK
        have HBW6 := Lib.hid hB
        have HD := Lib.hid hD
        have CM := Lib.hid (HCM6.out.below HBW6.out)
        have m0 := (cell_of_box CM.out.bxh).1
        have k0 := (cell_of_box (blk_keep HBW6.out HK6.out)).1
        clear hp hB hX hK hD hys
        go_wp2_with (at_mapUpdate; refine wpList_mapUpdate_own _ rfl _ _ _ 58 rfl 3 3 keyed_int Try.underlying58 (plainElem Try.prog 3) bm (j + 1) _ rfl CM.out.mp (by unfold maxLen; have := HJ.out; have := HN.out; omega) _ _ _ rfl rfl (key_small (by have := HJ.out; have := HN.out; omega)) _ [] (plainElem_int Try.underlying3 (wf_small (by omega))) ?_; intro v1 hown1 hgrow1)
        have T1 : Tn (· = bm) W v1 := Tn.of_grown hgrow1 (fun k e => by cases e; rfl)
        have z1 := HS3.out
        have z2 := HSZ.out
        have z3 := HZ5.out
        have z4 := HZ6.out
        have z5 := HD.out
        have z6 := HBW6.out.size
        have z7 := HJN.out
        refine ⟨⟨j + 1, s, _, _, _, _, _, _, _, _, _, _, _, _, D :: ds, HJN.out, ⟨?m1, T1.heap CM.out.bxh (by omega), T1.heap CM.out.out (by omega), ?m2⟩, ?m3, by have := T1.size; omega, ?m4, ?m5, rfl⟩, ?m7⟩
        case m1 =>
          unfold movD
          rw [show movV l i j = -1 from by unfold movV; rw [if_neg (by rw [HX'.out]; exact Bool.false_ne_true)]]
          exact hown1
        case m2 => rw [cutUp_no HX'.out]; exact T1.own CM.out.own (fun k hk e => by have := ownE_lt CM.out.own hk; omega)
        case m3 => exact T1.below (HB1.out.trans (HBW6.out.mono HB1.out.size)) (fun k e => by omega) (by have := HB1.out.size; omega)
        case m4 =>
          intro E hE
          rcases List.mem_cons.1 hE with rfl | hE
          · exact ⟨T1.heap HKD.out (by omega), by omega⟩
          · have hd := HDS.out E hE
            exact ⟨T1.heap (blk_keep HBW6.out (blk_keep HG6.out hd.1)) (by omega), hd.2⟩
        case m5 =>
          refine List.nodup_cons.2 ⟨fun hE => ?_, HND.out⟩
          have := (Array.getElem?_eq_some_iff.1 (HDS.out D hE).1).1
          omega
        case m7 => simp [intOf]; omega
      case stop =>
        rintro D c pre W hD hpre ⟨⟨rfl, hkp⟩, ⟨s', hcm'⟩, hbw', hsz', hds'⟩ hK
        have HKD := Lib.hid hK
        have HD := Lib.hid hD
        have HCM' := Lib.hid hcm'
        have HBW' := Lib.hid hbw'
        have HSZ' := Lib.hid hsz'
        have HDS' := Lib.hid hds'
        clear hkp hcm' hbw' hsz' hds' hD hpre hK
        gi_wp2
        go_wp2_with fail
        have z1 := HS3.out
        have z2 := HSZ.out
        have z3 := HZ5.out
        have z4 := HZ6.out
        have z5 := HD.out
        have z7 := HJN.out
        refine ⟨⟨j + 1, s', _, _, _, _, _, _, _, _, _, _, _, _, D :: ds, HJN.out, HCM'.out, HBW'.out, HSZ'.out, ?s4, ?s5, rfl⟩, ?s7⟩
        case s4 =>
          intro E hE
          rcases List.mem_cons.1 hE with rfl | hE
          · exact ⟨HKD.out, by omega⟩
          · exact ⟨HDS'.out E hE, (HDS.out E hE).2⟩
        case s5 =>
          refine List.nodup_cons.2 ⟨fun hE => ?_, HND.out⟩
          have := (Array.getElem?_eq_some_iff.1 (HDS.out D hE).1).1
          omega
        case s7 => simp [intOf]; omega
    · obtain rfl : j = n := by have := HJ.out; omega
      clear hlt
      have q1 := (tr_cells HCM.out.out).2.1
      have N2 := Lib.hid (blk_keep HBW.out K2.out)
      have q2 := wrA_block N2.out (tr_size _)
      go_wp2_with fail
      (try rw [Exit.noGoto_ret])
      have z1 := HS3.out
      have z2 := HSZ.out
      have z3 := HS1.out
      have z4 := HBW.out.size
      have hW1 : (stA wr (.pointer (some ⟨w.heap.size + 1 + 1, 0, none⟩)) (.agg (tr ⟨s⟩))).heap[w.heap.size + 1 + 1]? = some (.cells (tr ⟨s⟩) 24 (0, 0)) := heap_put' N2.out (by rw [tr_size, tr_size])
      have hds : ∀ D ∈ ds, (stA wr (.pointer (some ⟨w.heap.size + 1 + 1, 0, none⟩)) (.agg (tr ⟨s⟩))).heap[D]? = some (.deferred (some [])) := fun D hD => (heap_stA (by have := (HDS.out D hD).2; omega)).trans (HDS.out D hD).1
      refine leave_Ms ds _ HND.out hds fun W' hT => ?_
      have hW2 := hT.heap hW1 (fun hD => by have := (HDS.out _ hD).2; omega)
      have ho : OwnE Ene W' W3.heap.size (sv s) (cutL l i) := by
        have e1 : cutUp l i j = cutL l i := by rw [← HL.out]; exact cutUp_all l i
        rw [← e1]
        refine hT.own (ownE_stA HCM.out.own (by omega)) fun k hk hD => ?_
        have := own_cells HCM.out.own hk (HDS.out k hD).1
        cases this
      refine ⟨_, results_agg1 Try.isAgg24 Try.sizeOf24 _ 4 rfl _ _ _ _ rfl (ldA_block hW2 (tr_size _)), s, rfl, ownE_slE ho, ?_⟩
      exact hT.below (below_stA (belowT G1.out HBW.out) (by omega)) (fun k hk => by have := (HDS.out k hk).2; omega) (by rw [size_stA]; omega)
theorem treeCut (s : SlV) (l : List Nd) (i : Int) (w : World) (h : SlE Ene w (sv s) l) :
    Calls Try.prog 17 #[.agg (tr ⟨s⟩), .int .i64 i] w (TreeIs (cutZ l i) w) := by
  by_cases hk : isT l i = true
  · obtain ⟨hm, hk0, hk1⟩ := isT_iff.1 hk
    obtain ⟨i', rfl⟩ : ∃ i' : Nat, i = i' := ⟨i.toNat, by omega⟩
    have e : cutZ l (i' : Int) = cutL l i' := by unfold cutZ; rw [if_pos hk, Int.toNat_natCast]
    rw [e]
    have hn := sv_lenN h
    obtain ⟨p, n, cp⟩ := s
    dsimp only at hn
    subst hn
    obtain ⟨b1, o1, rfl, q1, q2⟩ := slE_ptr h (by omega)
    exact treeCut_yes b1 o1 _ cp l i' w h q1 q2 rfl hm (by omega)
  · have e : cutZ l i = [] := by unfold cutZ; rw [if_neg hk]
    rw [e]
    exact treeCut_no s l i w h (by simpa using hk)
end Go.Proofs.Ytnehebipikhejaa
