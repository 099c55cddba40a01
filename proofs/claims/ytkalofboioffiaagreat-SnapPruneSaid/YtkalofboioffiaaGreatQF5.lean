import Derived.Test.YtkalofboioffiaaGreatQF2
import Derived.Test.YtkalofboioffiaaGreatQF4
namespace Go.Proofs.YtkalofboioffiaaGreat
open Go.RowKit
set_option maxRecDepth 200000
set_option maxHeartbeats 64000000
section
open Go.Shelf Go.Maps
attribute [local go_sem] Oper.semAt_some
@[local go_sem ↓ high] theorem yqm {P : Program} (l : Option Nat) (ρ : Operand → Value) (o : Oper) (w : World) (h : ∀ c, o.op ≠ .defer c) : (Oper.semAt l ρ o).run P w = (execOp ρ o).run P w := by rw [Oper.semAt_eq l ρ o h]
theorem z8b (s : SlV) (l : List Nd) (i : Int) (w : World) (h : SlE Ene w (sv s) l) (hk : isT l i = false) :
  Calls Tryz.prog 166 #[.agg (tr ⟨s⟩), .int .i64 i] w (zt0 [] w) := by
 have HP := Lib.hid (fun W (g : Below w.heap.size w W) => zf3 s l i W (zad g h))
 rw [hk] at HP
 obtain ⟨W0, hW0⟩ : ∃ W0, W0 = ((w.alloc (.cells (tr ⟨s⟩) 24)).alloc (.cells #[.int .i64 i] 3)).alloc (.cells (tr ztr) 24) := ⟨_, rfl⟩
 obtain ⟨hB, h0, h1, h2, hz⟩ := zft w _ _ _ _ _ _ W0 hW0
 have HB := Lib.hid hB
 have H0 := Lib.hid h0
 have H1 := Lib.hid h1
 have H2 := Lib.hid h2
 have HW := Lib.hid hW0
 clear hW0 h hk hB h0 h1 h2 hz
 go_enter Tryz.func166, Tryz.ntmps166
 go_wp2_with fail
 go_step3
 go_wp2_with fail
 rw [← HW.out]
 refine (HP.out W0 HB.out).mono ?_
 rintro e w1 ⟨rfl, g1⟩
 have G1 := Lib.hid (zac HB.out g1)
 have N2 := Lib.hid (zab g1 H2.out)
 have q2 := za0 N2.out (za9 _)
 clear g1
 go_wp2_with fail
 (try rw [Exit.noGoto_ret])
 exact bodyPost_ret (zax Tryz.isAgg24 Tryz.sizeOf24 _ 4 rfl _ _ _ _ rfl (zbh N2.out (za9 _) (za9 ztr))) rfl ⟨⟨none, 0, 0⟩, rfl, zb3 _ _ _, zap G1.out (by omega)⟩
structure CutM (l : List Nd) (i base bo bm bx j : Nat) (s : SlV) (W : World) : Prop where
 mp : W.ownsMap Tryz.prog 3 (plainElem Tryz.prog 3) bm (j + 1) (movD l i j)
 bxh : W.heap[bx]? = some (.cells #[.map (some bm)] 228 (0, 0))
 out : W.heap[bo]? = some (.cells (tr ⟨s⟩) 24 (0, 0))
 own : OwnE Ene W base (sv s) (zjm l i j)
theorem CutM.tn {l : List Nd} {i base bo bm bx j : Nat} {s : SlV} {W W' : World} {bs : Nat → Prop} (h : CutM l i base bo bm bx j s W) (t : Tn bs W W') (h1 : ¬ bs bm) (h2 : ¬ bs bx) (h3 : ¬ bs bo) (h4 : ∀ k, (sv s).ownBlock = some k → ¬ bs k) : CutM l i base bo bm bx j s W' :=
 ⟨t.map h.mp h1, t.heap h.bxh h2, t.heap h.out h3, t.own h.own h4⟩
theorem CutM.below {l : List Nd} {i base bo bm bx j : Nat} {s : SlV} {W W' : World} (h : CutM l i base bo bm bx j s W) (g : Below W.heap.size W W') : CutM l i base bo bm bx j s W' :=
 h.tn (Tn.of_below (fun _ => False) g) id id id (fun _ _ => id)
theorem z18 (b1 o1 n cp : Nat) (l : List Nd) (i : Nat) (w : World) (h : SlE Ene w (.slice (some ⟨b1, o1, none⟩) n cp) l) (hb1 : b1 < w.heap.size) (hx1 : w.rangeAt b1 o1 (zaq Ene l)) (hl : l.length = n) (hm : MayT l) (hi : i < n) :
  Calls Tryz.prog 166 #[.agg (tr ⟨⟨some ⟨b1, o1, none⟩, n, cp⟩⟩), .int .i64 (i : Int)] w (zt0 (cutL l i) w) := by
 have HP : Hid (∀ W, Below w.heap.size w W → Calls Tryz.prog 50 #[.agg (tr ⟨⟨some ⟨b1, o1, none⟩, n, cp⟩⟩), .int .i64 (i : Int)] W fun e w' => e = .returned (.bool true) ∧ Below W.heap.size W w') := fun W g => by
  have := zf3 ⟨some ⟨b1, o1, none⟩, n, cp⟩ l i W (zad g h)
  rwa [zhh hm (by omega)] at this
 have HX := Lib.hid hx1
 have HL := Lib.hid hl
 have HM := Lib.hid hm
 have HI := Lib.hid hi
 have HQ := Lib.hid hb1
 have HN : Hid (n ≤ 12) := by show n ≤ 12; have := hm.le; omega
 obtain ⟨W0, hW0⟩ : ∃ W0, W0 = ((w.alloc (.cells (tr ⟨⟨some ⟨b1, o1, none⟩, n, cp⟩⟩) 24)).alloc (.cells #[.int .i64 (i : Int)] 3)).alloc (.cells (tr ztr) 24) := ⟨_, rfl⟩
 obtain ⟨hB, h0, h1, h2, hz⟩ := zft w _ _ _ _ _ _ W0 hW0
 have HB := Lib.hid hB
 have H0 := Lib.hid h0
 have H1 := Lib.hid h1
 have H2 := Lib.hid h2
 have HZ := Lib.hid hz
 have HW := Lib.hid hW0
 have hmm := @run_makeMap Tryz.prog
 clear hW0 h hx1 hl hm hi hb1 hB h0 h1 h2 hz
 refine callsIn_wide.1 (callsIn_of_wp_marks (n := 3) Tryz.func166 rfl trivial (wpIn_wide.2 ?_))
 simp only [Tryz.ntmps166, List.size_toArray, List.length_cons, List.length_nil, Nat.reduceAdd, Nat.reduceSub, Array.replicate_succ, Array.replicate_zero, List.push_toArray, List.append_toArray, List.nil_append, List.cons_append]
 go_wp2_with fail
 go_step3
 go_wp2_with fail
 rw [← HW.out]
 refine (HP.out W0 HB.out).mono ?_
 rintro e w1 ⟨rfl, g1⟩
 have G1 := Lib.hid (zac HB.out g1)
 have K0 := Lib.hid (zab g1 H0.out)
 have K1 := Lib.hid (zab g1 H1.out)
 have K2 := Lib.hid (zab g1 H2.out)
 have HS1 : Hid (w.heap.size + 3 ≤ w1.heap.size) := by show _ ≤ _; have := g1.size; have := HZ.out; omega
 obtain ⟨y0, _, yl⟩ := zaw K0.out
 dsimp only at y0
 rw [za7] at y0
 clear g1
 have HMD : Hid (((w1.alloc (.cells (tr ztr) 24)).alloc (.map #[] 0)).ownsMap Tryz.prog 3 (plainElem Tryz.prog 3) (w1.heap.size + 1) 0 (.map [] : DataW Unit)) := by
  have := World.ownsMap_made (H := Unit) (w1.alloc (.cells (tr ztr) 24)) Tryz.prog 3 (plainElem Tryz.prog 3)
  rwa [World.size_alloc] at this
 go_wp2_with (refine znm _ rfl _ _ _ 228 rfl 3 3 keyed_int Tryz.underlying228 (plainElem Tryz.prog 3) (w1.heap.size + 1) 0 (.map []) rfl HMD.out (by decide) _ _ (iK (-1)) rfl rfl (zin (by omega)) (iV (-1)) [] (plainElem_int Tryz.underlying3 (by decide)) ?_; intro w2 hown2 hgrow2)
 obtain ⟨bx, hbx⟩ : ∃ bx, bx = w2.heap.size := ⟨_, rfl⟩
 obtain ⟨bo, hbo⟩ : ∃ bo, bo = w1.heap.size := ⟨_, rfl⟩
 obtain ⟨bm, hbm⟩ : ∃ bm, bm = w1.heap.size + 1 := ⟨_, rfl⟩
 obtain ⟨W3, hW3⟩ : ∃ W3, W3 = w2.alloc (.cells #[.map (some (w1.heap.size + 1))] 228) := ⟨_, rfl⟩
 have hg2 := hgrow2.size
 simp only [World.size_alloc] at hg2
 have hB3 : Below w1.heap.size w1 W3 := by
  rw [hW3]
  exact (((below1 (w := w1)).trans ((below1 (w := w1.alloc _)).mono (by simp))).grown hgrow2 (by simp; omega) (fun k hk => by cases hk; omega)).alloc (by omega) _
 have hO3 : W3.heap[bo]? = some (.cells (tr ztr) 24 (0, 0)) := by
  have e0 := zab (below1 (w := w1.alloc (.cells (tr ztr) 24)) (o := .map #[] 0)) (heap_alloc_last w1 (.cells (tr ztr) 24 (0, 0)))
  have e1 := (hgrow2.block w1.heap.size (by simp; omega) (by intro e; injection e with e; omega)).trans e0
  rw [hW3, hbo]
  exact zab below1 e1
 have CM0 : Hid (CutM l i W3.heap.size bo bm bx 0 ⟨none, 0, 0⟩ W3) := by
  refine ⟨?_, ?_, hO3, zb3 _ _ _⟩
  ·
   rw [hW3, hbm]; exact hown2.alloc _
  ·
   rw [hW3, hbx, hbm]; exact heap_alloc_last w2 _
 have HS3 : Hid (W3.heap.size = bx + 1 ∧ bm = bo + 1 ∧ bo = w1.heap.size ∧ bm < bx) := by
  refine ⟨by rw [hW3, hbx]; exact World.size_alloc _ _, by omega, hbo, by omega⟩
 have HB3 := Lib.hid hB3
 rw [← hW3, ← hbm, ← hbx, ← hbo]
 clear hB3 hO3 hW3 hown2 hgrow2 hg2 HMD hmm hbx hbo hbm
 go_step3
 clear y0 yl
 obtain ⟨y0, _, yl⟩ := zaw (zab HB3.out K0.out)
 dsimp only at y0
 rw [za7] at y0
 go_wp2_with fail
 refine wp_loop (fun a W => ∃ (j : Nat) (s : SlV) (u7 u8 u21 u22 u23 u24 u25 u26 u27 u48 u49 u50 : Value) (ds : List Nat), j ≤ n ∧ CutM l i W3.heap.size bo bm bx j s W ∧ Below w1.heap.size w1 W ∧ W3.heap.size ≤ W.heap.size ∧ (∀ D ∈ ds, W.heap[D]? = some (.deferred (some [])) ∧ W3.heap.size ≤ D) ∧ ds.Nodup ∧
   a = { tmps := #[.agg (tr ⟨⟨some ⟨b1, o1, none⟩, n, cp⟩⟩), .int .i64 (i : Int), .pointer (some ⟨w.heap.size, 0, none⟩), .pointer (some ⟨w.heap.size + 1, 0, none⟩), .pointer (some ⟨w.heap.size + 1 + 1, 0, none⟩), .pointer (some ⟨bo, 0, none⟩), .pointer (some ⟨bx, 0, none⟩), u7, u8, undef, .agg (tr ⟨⟨some ⟨b1, o1, none⟩, n, cp⟩⟩), .int .i64 (i : Int), .bool true, .bool false, undef, .map (some bm), .map (some bm), .pointer (some ⟨w.heap.size, 0, none⟩), .slice (some ⟨b1, o1, none⟩) n cp, .int .i64 (n : Int), .int .i64 (j : Int), u21, u22, u23, u24, u25, u26, u27, undef, undef, undef, undef, undef, undef, undef, undef, undef, undef, undef, undef, undef, undef, undef, undef, undef, undef, undef, undef, u48, u49, u50, undef], defers := ds.map mkD })
  (fun a _ => n - (intOf (a.tmps.getD 20 undef)).toNat) ?start ?round
 case start =>
  exact ⟨0, ⟨none, 0, 0⟩, _, _, _, _, _, _, _, _, _, _, _, _, [], Nat.zero_le _, CM0.out, HB3.out, Nat.le_refl _, fun D hD => (by cases hD), List.nodup_nil, rfl⟩
 case round =>
  rintro a wr ⟨j, s, u7, u8, u21, u22, u23, u24, u25, u26, u27, u48, u49, u50, ds, hj, hcm, hbw, hsz, hds, hnd, rfl⟩
  have HJ := Lib.hid hj
  have HCM := Lib.hid hcm
  have HBW := Lib.hid hbw
  have HSZ := Lib.hid hsz
  have HDS := Lib.hid hds
  have HND := Lib.hid hnd
  clear y0 yl hj hcm hbw hsz hds hnd CM0
  obtain ⟨y0, y1, yl⟩ := zaw (zab HBW.out K0.out)
  dsimp only at y0
  rw [za7] at y0
  by_cases hlt : j < n
  ·
   have i0 : (0 : Int) ≤ (j : Int) := by omega
   have i1 : (j : Int) < (n : Int) := by omega
   have u1 : (j : Int) + 1 < 10000 := by have := HN.out; omega
   have hmu : n - (intOf (Value.int .i64 (j : Int))).toNat = n - j := by simp [intOf]
   have HMU := Lib.hid hmu
   have HJN := Lib.hid hlt
   obtain ⟨x, hx⟩ : ∃ x, x = nd l j := ⟨_, rfl⟩
   have x0 := keep HBW.out (show ldA w1 (.pointer (some ⟨b1, o1 + j * 35, none⟩)) 35 = some (ne (nd l j)) from zjv (zfu G1.out HX.out) (by have := HL.out; omega))
   rw [← hx] at x0
   have HXx := Lib.hid hx
   clear hx hmu hlt
   go_wp2_with fail
   obtain ⟨W5, hW5⟩ : ∃ W5, W5 = (wr.alloc (.cells #[.int .i64 (j : Int)] 3)).alloc (.cells (ne x) 63) := ⟨_, rfl⟩
   obtain ⟨hB5, hk5, hn5, hz5⟩ := zdb wr _ _ _ _ W5 hW5
   rw [← hW5]
   refine (zwj _ _ _).mono ?_
   rintro e w6 ⟨rfl, hw6⟩
   obtain ⟨hB6, hT6, hC6, hz6⟩ := zdb W5 _ _ _ _ w6 hw6
   have HG6 := Lib.hid (zac hB5 hB6)
   have HK6 := Lib.hid (zab hB6 hk5)
   have HN6 := Lib.hid (zab hB6 hn5)
   have HT6 := Lib.hid hT6
   have HC6 := Lib.hid hC6
   have HZ5 := Lib.hid hz5
   have HZ6 := Lib.hid hz6
   have HCM6 := Lib.hid (HCM.out.below (zac hB5 hB6))
   clear hW5 hB5 hk5 hn5 hz5 hw6 hB6 hT6 hC6 hz6 y0 y1 yl x0
   go_wp2_with fail
   refine (wpIn_wide (n := 3)).1 ?_
   have HB1 : Hid (Below w1.heap.size w1 w6) := HBW.out.trans (HG6.out.mono HBW.out.size)
   have HWw : Hid (Below w.heap.size w w6) := zac G1.out HB1.out
   refine wpIn_rangeFunc_ownG (w0 := w6) rfl (by omega) (gf := 95) (lb := #[.pointer (some ⟨W5.heap.size + 1, 0, none⟩), .pointer (some ⟨W5.heap.size, 0, none⟩)]) rfl trivial (zbe Tryz.func95 (by kernel_rfl) (by kernel_rfl))
    (zmz Fence.wide 2 trivial rfl (by omega) (W5.heap.size + 1) W5.heap.size b1 o1 n cp w6.heap.size l j w6 HM.out HL.out HJN.out
     (zaj HC6.out).1 HT6.out (zfu HWw.out HX.out) (by have := HZ6.out; omega) (by have := HZ6.out; omega) (by have := HQ.out; have := HWw.out.size; have := HS1.out; have := HBW.out.size; have := HG6.out.size; omega) (Nat.le_refl _))
    belowK_t (belowK_b (Nat.le_refl _)) (Below.refl _ _) (fun _ => rfl)
    (fun pre W => (∀ y ∈ pre, y.1 ≠ i) ∧ Below w6.heap.size w6 W)
    (fun c pre W => (c = .exit 1 ∧ zbw l i j = true) ∧ (∃ s' : SlV, CutM l i W3.heap.size bo bm bx (j + 1) s' W) ∧ Below w1.heap.size w1 W ∧ W3.heap.size ≤ W.heap.size ∧ (∀ D ∈ ds, W.heap[D]? = some (.deferred (some []))))
    (z33 _ (Nat.le_refl _)) (fun c => ?ownx)
    ⟨fun _ h => absurd h List.not_mem_nil, Below.refl _ _⟩ ?a1 ?assign ?body ?done ?stop
   case ownx =>
    refine ztl fun pre W W' bs ⟨h1, ⟨s', h2⟩, h3, h4, h5⟩ t hbs => ?_
    have hlo : ∀ k, k < w6.heap.size → ¬ bs k := fun k hk e => by have := (hbs k e).1; omega
    have q1 := (Array.getElem?_eq_some_iff.1 HCM6.out.bxh).1
    have q2 := (Array.getElem?_eq_some_iff.1 HCM6.out.out).1
    have q3 := HCM6.out.mp.lt
    refine ⟨h1, ⟨s', h2.tn t (hlo _ q3) (hlo _ q1) (hlo _ q2) (fun k hk e => ?_)⟩, t.below h3 (fun k e => ?_) (Nat.le_trans (Nat.le_refl _) h3.size), Nat.le_trans h4 t.size, fun D hD => t.heap (h5 D hD) (hlo _ ?_)⟩
    ·
     obtain ⟨_, o, ho, hc⟩ := hbs k e
     rw [zfx h2.own hk ho] at hc
     cases hc
    ·
     have := (hbs k e).1
     have := HB1.out.size
     omega
    ·
     have := (Array.getElem?_eq_some_iff.1 (HDS.out D hD).1).1
     have := HG6.out.size
     omega
   case assign =>
    intro lo x W K hK
    gi_wp2
    exact hK
   case body =>
    rintro lo pre ⟨y, hy⟩ W ⟨hp, hB⟩ hlen
    have HP := Lib.hid hp
    have HBW6 := Lib.hid hB
    have c3 := (zaj (zab (zac HB1.out hB) K1.out)).1
    by_cases he : i = y
    ·
     subst he
     have hkp : zbw l i j = true := zaz.2 ⟨by have := HL.out; have := HJN.out; omega, (zja HM.out i j (by have := HL.out; have := HJN.out; omega)).1 hy⟩
     have N6 := Lib.hid (zab HBW6.out HN6.out)
     have K6 := Lib.hid (zab HBW6.out HK6.out)
     obtain ⟨sp, sn, sc⟩ := s
     have CM := Lib.hid (HCM6.out.below HBW6.out)
     have HR : Hid ((zjm l i j).length = sn) := zcn (zat CM.out.own)
     have HKP := Lib.hid hkp
     have HO : Hid (∀ k, (Value.slice sp sn sc).ownBlock = some k → W3.heap.size ≤ k ∧ k < wr.heap.size) := fun k hk => zbi HCM.out.own hk
     have m0 := (zaj CM.out.bxh).1
     have k0 := (zaj K6.out).1
     obtain ⟨s0, _, _⟩ := zaw CM.out.out
     dsimp only at s0
     rw [za7] at s0
     have HSN : Hid (sn ≤ j) := by show sn ≤ j; have h1 := yfn l i j; have h2 := HR.out; omega
     clear hp hB hlen
     have HPR := Lib.hid (z6p HM.out (by have := HL.out; have := HI.out; omega) hkp (.lit (.int .i64 0)) (by have := HL.out; have := HN.out; omega))
     clear hkp
     gi_wp2_with (first
      | (
        gi_at_mapUpdate
        refine wpListIn_mapUpdate_own _ rfl _ _ _ 228 rfl 3 3 keyed_int Tryz.underlying228 (plainElem Tryz.prog 3) bm (j + 1) _ rfl CM.out.mp (by unfold maxLen; have := HJ.out; have := HN.out; omega) _ _ _ rfl rfl (zin (by have := HJ.out; have := HN.out; omega)) _ [] (plainElem_int Tryz.underlying3 (zwr (by have := HJ.out; have := HN.out; have := HSN.out; omega))) ?_
        intro v1 hown1 hgrow1
        have M1 : Hid (v1.ownsMap Tryz.prog 3 (plainElem Tryz.prog 3) bm (j + 2) (movD l i (j + 1))) := by
         show World.ownsMap _ _ _ _ _ _ _
         have e1 : movV l i j = (sn : Int) := by
          unfold movV
          rw [if_pos HKP.out, ← z9o, HR.out]
         unfold movD
         rw [e1]
         exact hown1
        have T1 : Hid (Tn (· = bm) W v1) := Tn.of_grown hgrow1 (fun k e => by cases e; rfl)
        have q1 := (zaj (T1.out.heap CM.out.bxh (by have := HS3.out; omega))).1
        have q2 := (zor (T1.out.heap N6.out (by have := HS3.out; have := HSZ.out; omega))).2.1
        have q5 := ztj (T1.out.heap N6.out (by have := HS3.out; have := HSZ.out; omega)) 32
        clear hown1 hgrow1)
      | (
        gi_at_lookup
        go_loud (
        refine wpListIn_lookup_own_int _ rfl _ _ 228 rfl 3 3 .i64 keyed_int Tryz.underlying228 Tryz.underlying3 (zzx _) bm (j + 2) _ rfl M1.out _ _ rfl (zin (by have := HPR.out; rw [HXx.out]; omega)) ?_
        intro c hat hwc
        have HC := Lib.hid hat
        have N7 := Lib.hid (T1.out.heap N6.out (by have := HS3.out; have := HSZ.out; omega))
        have T2 : Hid (Tn (fun k => k = bm ∨ k = wr.heap.size + 1 ∨ k = bo ∨ (Value.slice sp sn sc).ownBlock = some k) W (v1.setCell ⟨wr.heap.size + 1, 32, none⟩ (.int .i64 c))) := (T1.out.mono (fun k e => .inl e)).trans (Tn.setCell _ _ _ (.inr (.inl rfl)))
        have N8 : Hid ((v1.setCell ⟨wr.heap.size + 1, 32, none⟩ (.int .i64 c)).heap[wr.heap.size + 1]? = some (.cells (ne { x with parent := c }) 63 (0, 0))) := by
         show _ = _
         rw [za4 N7.out, zvl]
        have B8 : Hid ((v1.setCell ⟨wr.heap.size + 1, 32, none⟩ (.int .i64 c)).heap[bo]? = some (.cells (tr ⟨⟨sp, sn, sc⟩⟩) 24 (0, 0))) := by
         show _ = _
         rw [Below.heap_setCell _ _ _ _ (by show bo ≠ wr.heap.size + 1; have := HS3.out; have := HSZ.out; omega)]
         exact T1.out.heap CM.out.out (by have := HS3.out; omega)
        have q3 := zag N8.out (zm3 _)
        have q4 := (zaw B8.out).1
        dsimp only at q4
        rw [za7] at q4
        have O8 : Hid (OwnE Ene (v1.setCell ⟨wr.heap.size + 1, 32, none⟩ (.int .i64 c)) W3.heap.size (.slice sp sn sc) (zjm l i j)) :=
         ((Tn.setCell (bs := (· = wr.heap.size + 1)) v1 32 (.int .i64 c) rfl).own (T1.out.own CM.out.own (fun k hk e => by have := HO.out k hk; have := HS3.out; omega)) (fun k hk e => by have := HO.out k hk; omega))
        clear hat hwc))
      | (
        gi_at_builtin
        go_loud (
        refine znk KneB _ rfl (.tmp 43) (.tmp 45) rfl W3.heap.size _ (zjm l i j) rfl (zba O8.out _) _ [{ x with parent := c }] rfl (zej _ [{ x with parent := c }] 1 _ _ _ rfl (by simp) (by simp [zaq, Ene, zm2])) (by have := HR.out; have := HSN.out; have := HJ.out; have := HN.out; simp [maxLen]; omega) (by have := HR.out; have := HSN.out; have := HJ.out; have := HN.out; simp; omega) (by have := T1.out.size; have := HBW6.out.size; have := HZ6.out; have := HZ5.out; have := HSZ.out; simp; omega) ?_
        intro v' w' ho' hgr'
        obtain ⟨vp, vc, hv⟩ := zdg ho' (n := sn + 1) (by rw [List.length_append, HR.out]; rfl)
        rw [hv] at ho' hgr' ⊢
        clear hv
        have HO' := Lib.hid ho'
        have T3 : Hid (Tn (fun k => k = bm ∨ k = wr.heap.size + 1 ∨ k = bo ∨ (Value.slice sp sn sc).ownBlock = some k) W w') := T2.out.trans ((Tn.alloc _ _ _).trans (Tn.of_grown hgr'.1 (fun k e => .inr (.inr (.inr e)))))
        have B9 : Hid (w'.heap[bo]? = some (.cells (tr ⟨⟨sp, sn, sc⟩⟩) 24 (0, 0))) := hgr'.heap (zab below1 B8.out) (fun e => by have := HO.out _ e; have := HS3.out; omega)
        have HMP : Hid (w'.ownsMap Tryz.prog 3 (plainElem Tryz.prog 3) bm (j + 2) (movD l i (j + 1))) :=
         (Tn.of_grown (bs := fun k => (Value.slice sp sn sc).ownBlock = some k) hgr'.1 (fun k e => e)).map ((Tn.alloc (· = wr.heap.size + 1) _ _).map ((Tn.setCell (bs := (· = wr.heap.size + 1)) v1 32 (.int .i64 c) rfl).map M1.out (by have := HS3.out; have := HSZ.out; omega)) (by have := HS3.out; have := HSZ.out; omega)) (fun e => by have := HO.out _ e; have := HS3.out; omega)
        have q6 := (zaw B9.out).1
        dsimp only at q6
        rw [za7] at q6
        have q7 := ztj B9.out 0
        clear ho' hgr')))
     have T4 : Hid (Tn (fun k => k = bm ∨ k = wr.heap.size + 1 ∨ k = bo ∨ (Value.slice sp sn sc).ownBlock = some k) W (w'.setCell ⟨bo, 0, none⟩ (.slice vp (sn + 1) vc))) := T3.out.trans (Tn.setCell _ _ _ (.inr (.inr (.inl rfl))))
     have e1 : c = (cutN l i j).parent := by
      have h1 := HPR.out.1
      rw [← HXx.out] at h1
      have h2 := h1.symm.trans HC.out
      unfold iV at h2
      injection h2 with h3
      injection h3 with _ h4
      exact h4.symm
     have e2 : cutN l i j = { x with parent := c } := by rw [e1, HXx.out]; rfl
     have E2 := Lib.hid e2
     clear e1 e2
     refine ⟨zxs T4.out fun k hk => ?_, ⟨rfl, HKP.out⟩, ⟨⟨vp, sn + 1, vc⟩, ?_, ?_, ?_, ?_⟩, ?_, ?_, ?_⟩
     ·
      left
      have := HS3.out; have := HSZ.out; have := HZ5.out; have := HZ6.out
      rcases hk with h | h | h | h
      ·
       omega
      ·
       omega
      ·
       omega
      ·
       have := HO.out k h; omega
     ·
      exact (Tn.setCell (bs := (· = bo)) w' 0 _ rfl).map HMP.out (by have := HS3.out; omega)
     ·
      refine T4.out.heap CM.out.bxh fun hk => ?_
      have := HS3.out; have := HSZ.out
      rcases hk with h | h | h | h
      ·
       omega
      ·
       omega
      ·
       omega
      ·
       have := HO.out bx h; omega
     ·
      rw [za4 B9.out]
      congr 2
      exact yin _ ⟨vp, sn + 1, vc⟩
     ·
      rw [z9p HKP.out, E2.out]
      exact zos HO'.out (by have := HS3.out; omega) _
     ·
      refine T4.out.below (HB1.out.trans (HBW6.out.mono HB1.out.size)) (fun k hk => ?_) (by have := HB1.out.size; have := HBW6.out.size; omega)
      have := HS3.out; have := HSZ.out
      rcases hk with h | h | h | h
      ·
       omega
      ·
       omega
      ·
       omega
      ·
       have := HO.out k h; omega
     ·
      have := T4.out.size; have := HBW6.out.size; have := HZ6.out; have := HZ5.out; have := HSZ.out; omega
     ·
      intro D hD
      have hd := HDS.out D hD
      have hl := (Array.getElem?_eq_some_iff.1 hd.1).1
      refine T4.out.heap (zab HBW6.out (zab HG6.out hd.1)) fun hk => ?_
      have := HS3.out
      rcases hk with h | h | h | h
      ·
       omega
      ·
       omega
      ·
       omega
      ·
       have := zfx HCM.out.own h hd.1
       cases this
    ·
     have t1 : ((y : Int) == (i : Int)) = false := by simp; omega
     have HE : Hid (y ≠ i) := fun e => he e.symm
     clear hp hB hlen he
     gi_wp2
     exact ⟨KeepsFrom.refl _ _, Below.refl _ _, fun z hz => by
      rcases List.mem_append.1 hz with h | h
      ·
       exact HP.out z h
      ·
       rw [List.mem_singleton] at h; subst h; exact HE.out, HBW6.out⟩
   case done =>
    rintro D ys W hD hys ⟨hp, hB⟩ hK
    have hX : zbw l i j = false := by
     rw [← Bool.not_eq_true]
     intro ha
     have hin := (zja HM.out i j (by have := HL.out; have := HJN.out; omega)).2 (zaz.1 ha).2
     rw [← hys] at hin
     obtain ⟨y, hy, e⟩ := List.mem_map.1 hin
     exact hp y hy e
    have HX' := Lib.hid hX
    have HKD := Lib.hid hK
    have HBW6 := Lib.hid hB
    have HD := Lib.hid hD
    have CM := Lib.hid (HCM6.out.below HBW6.out)
    have m0 := (zaj CM.out.bxh).1
    have k0 := (zaj (zab HBW6.out HK6.out)).1
    clear hp hB hX hK hD hys
    go_wp2_with (at_mapUpdate; refine wpList_mapUpdate_own _ rfl _ _ _ 228 rfl 3 3 keyed_int Tryz.underlying228 (plainElem Tryz.prog 3) bm (j + 1) _ rfl CM.out.mp (by unfold maxLen; have := HJ.out; have := HN.out; omega) _ _ _ rfl rfl (zin (by have := HJ.out; have := HN.out; omega)) _ [] (plainElem_int Tryz.underlying3 (zwr (by omega))) ?_; intro v1 hown1 hgrow1)
    have T1 : Tn (· = bm) W v1 := Tn.of_grown hgrow1 (fun k e => by cases e; rfl)
    have z1 := HS3.out
    have z2 := HSZ.out
    have z3 := HZ5.out
    have z4 := HZ6.out
    have z5 := HD.out
    have z6 := HBW6.out.size
    have z7 := HJN.out
    refine ⟨⟨j + 1, s, _, _, _, _, _, _, _, _, _, _, _, _, D :: ds, HJN.out, ⟨?m1, T1.heap CM.out.bxh (by omega), T1.heap CM.out.out (by omega), ?m2⟩, ?m3, by have := T1.size; omega, ?m4, ?m5, rfl⟩, ?m7⟩
    case m1 =>
     unfold movD
     rw [show movV l i j = -1 from by unfold movV; rw [if_neg (by rw [HX'.out]; exact Bool.false_ne_true)]]
     exact hown1
    case m2 => rw [yfo HX'.out]; exact T1.own CM.out.own (fun k hk e => by have := zbi CM.out.own hk; omega)
    case m3 => exact T1.below (HB1.out.trans (HBW6.out.mono HB1.out.size)) (fun k e => by omega) (by have := HB1.out.size; omega)
    case m4 =>
     intro E hE
     rcases List.mem_cons.1 hE with rfl | hE
     ·
      exact ⟨T1.heap HKD.out (by omega), by omega⟩
     ·
      have hd := HDS.out E hE
      exact ⟨T1.heap (zab HBW6.out (zab HG6.out hd.1)) (by omega), hd.2⟩
    case m5 =>
     refine List.nodup_cons.2 ⟨fun hE => ?_, HND.out⟩
     have := (Array.getElem?_eq_some_iff.1 (HDS.out D hE).1).1
     omega
    case m7 => simp [intOf]; omega
   case stop =>
    rintro D c pre W hD hpre ⟨⟨rfl, hkp⟩, ⟨s', hcm'⟩, hbw', hsz', hds'⟩ hK
    have HKD := Lib.hid hK
    have HD := Lib.hid hD
    have HCM' := Lib.hid hcm'
    have HBW' := Lib.hid hbw'
    have HSZ' := Lib.hid hsz'
    have HDS' := Lib.hid hds'
    clear hkp hcm' hbw' hsz' hds' hD hpre hK
    gi_wp2
    go_wp2_with fail
    have z1 := HS3.out
    have z2 := HSZ.out
    have z3 := HZ5.out
    have z4 := HZ6.out
    have z5 := HD.out
    have z7 := HJN.out
    refine ⟨⟨j + 1, s', _, _, _, _, _, _, _, _, _, _, _, _, D :: ds, HJN.out, HCM'.out, HBW'.out, HSZ'.out, ?s4, ?s5, rfl⟩, ?s7⟩
    case s4 =>
     intro E hE
     rcases List.mem_cons.1 hE with rfl | hE
     ·
      exact ⟨HKD.out, by omega⟩
     ·
      exact ⟨HDS'.out E hE, (HDS.out E hE).2⟩
    case s5 =>
     refine List.nodup_cons.2 ⟨fun hE => ?_, HND.out⟩
     have := (Array.getElem?_eq_some_iff.1 (HDS.out D hE).1).1
     omega
    case s7 => simp [intOf]; omega
  ·
   obtain rfl : j = n := by have := HJ.out; omega
   clear hlt
   have q1 := (zaw HCM.out.out).2.1
   have N2 := Lib.hid (zab HBW.out K2.out)
   have q2 := za0 N2.out (za9 _)
   go_wp2_with fail
   (try rw [Exit.noGoto_ret])
   have z1 := HS3.out
   have z2 := HSZ.out
   have z3 := HS1.out
   have z4 := HBW.out.size
   have hW1 : (stA wr (.pointer (some ⟨w.heap.size + 1 + 1, 0, none⟩)) (.agg (tr ⟨s⟩))).heap[w.heap.size + 1 + 1]? = some (.cells (tr ⟨s⟩) 24 (0, 0)) := yas N2.out (by rw [za9, za9])
   have hds : ∀ D ∈ ds, (stA wr (.pointer (some ⟨w.heap.size + 1 + 1, 0, none⟩)) (.agg (tr ⟨s⟩))).heap[D]? = some (.deferred (some [])) := fun D hD => (zdf (by have := (HDS.out D hD).2; omega)).trans (HDS.out D hD).1
   refine zvb ds _ HND.out hds fun W' hT => ?_
   have hW2 := hT.heap hW1 (fun hD => by have := (HDS.out _ hD).2; omega)
   have ho : OwnE Ene W' W3.heap.size (sv s) (cutL l i) := by
    have e1 : zjm l i j = cutL l i := by rw [← HL.out]; exact z9n l i
    rw [← e1]
    refine hT.own (zdp HCM.out.own (by omega)) fun k hk hD => ?_
    have := zfx HCM.out.own hk (HDS.out k hD).1
    cases this
   refine ⟨_, zax Tryz.isAgg24 Tryz.sizeOf24 _ 4 rfl _ _ _ _ rfl (zag hW2 (za9 _)), s, rfl, zbf ho (by omega), ?_⟩
   exact hT.below (zap (zac G1.out HBW.out) (by omega)) (fun k hk => by have := (HDS.out k hk).2; omega) (by rw [zl0]; omega)
theorem yio (s : SlV) (l : List Nd) (i : Int) (w : World) (h : SlE Ene w (sv s) l) :
  Calls Tryz.prog 166 #[.agg (tr ⟨s⟩), .int .i64 i] w (zt0 (cutZ l i) w) := by
 by_cases hk : isT l i = true
 ·
  obtain ⟨hm, hk0, hk1⟩ := zdi.1 hk
  obtain ⟨i', rfl⟩ : ∃ i' : Nat, i = i' := ⟨i.toNat, by omega⟩
  have e : cutZ l (i' : Int) = cutL l i' := by unfold cutZ; rw [if_pos hk, Int.toNat_natCast]
  rw [e]
  have hn := zcn h
  obtain ⟨p, n, cp⟩ := s
  dsimp only at hn
  subst hn
  obtain ⟨b1, o1, rfl, q1, q2⟩ := zda h (by omega)
  exact z18 b1 o1 _ cp l i' w h q1 q2 rfl hm (by omega)
 ·
  have e : cutZ l i = [] := by unfold cutZ; rw [if_neg hk]
  rw [e]
  exact z8b s l i w h (by simpa using hk)
end
open Go.RowKit
section
variable {w W W' : World} {T R : Nat} {s : SlV} {v : Vt} {u : Value} {ks : List Rt}
def rtAt (l : List Rt) (i : Nat) : Rt := l.getD i zr
theorem z1s {l : List Rt} {i : Nat} (h : i < l.length) : rtAt l i = l[i] := by unfold rtAt; simp [h]
theorem yns {w : World} {p : Option Addr} {n cp : Nat} {l : List Rt} (h : SlE Ert w (.slice p n cp) l) (h0 : 0 < l.length) : ∃ b o, p = some ⟨b, o, none⟩ ∧ b < w.heap.size ∧ w.rangeAt b o (zaq Ert l) := by
 obtain ⟨b, o, c, e, _, q, x⟩ := zdm h h0
 injection e with e1 e2 e3
 exact ⟨b, o, e1, q, x⟩
theorem yql {w : World} {b off : Nat} {l : List Rt} (h : w.rangeAt b off (zaq Ert l)) {i : Nat} (hi : i < l.length) : ldA w (.pointer (some ⟨b, off + i * 32, none⟩)) 32 = some (rc (rtAt l i)) := by
 have := zqb h hi
 rw [z1s hi]
 exact this
theorem ymj {l : List Lt} {f : Lt → Lt} {i : Nat} (h : i < l.length) : lat (l.map f) i = f (lat l i) := by
 rw [zp9 (by rw [List.length_map]; exact h), zp9 h, List.getElem_map]
end
end Go.Proofs.YtkalofboioffiaaGreat
