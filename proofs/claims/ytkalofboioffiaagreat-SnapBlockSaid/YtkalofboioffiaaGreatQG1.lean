import Derived.Test.YtkalofboioffiaaGreatQF7
namespace Go.Proofs.YtkalofboioffiaaGreat
open Go.RowKit
set_option maxRecDepth 200000
set_option maxHeartbeats 64000000
theorem z7k (p q : Option Addr) (n m cl ck : Nat) (w : World) (hl : n ≠ m) :
  Calls Tryz.prog 28 #[.agg (tr ⟨⟨p, n, cl⟩⟩), .agg (tr ⟨⟨q, m, ck⟩⟩)] w fun e w' => e = .returned (.bool false) ∧ Below w.heap.size w w' := by
 have HB : Hid (Below w.heap.size w ((w.alloc (.cells (tr ⟨⟨p, n, cl⟩⟩) 24)).alloc (.cells (tr ⟨⟨q, m, ck⟩⟩) 24))) := zac below1 below1
 have e1 : ((n : Int) == (m : Int)) = false := by simp; omega
 clear hl
 go_enter Tryz.func28, Tryz.ntmps28
 go_wp2_with fail
 go_ret
 exact ⟨rfl, HB.out⟩
theorem z7j (p q : Option Addr) (n cl ck : Nat) (l k : List Nd) (w : World) (h : SlE Ene w (.slice p n cl) l) (h' : SlE Ene w (.slice q n ck) k) (hl : l.length = n) (hk : k.length = n) (hn : n ≤ 1000) :
  Calls Tryz.prog 28 #[.agg (tr ⟨⟨p, n, cl⟩⟩), .agg (tr ⟨⟨q, n, ck⟩⟩)] w fun e w' => e = .returned (.bool (decide (l = k))) ∧ Below w.heap.size w w' := by
 have HL := Lib.hid hl
 have HK := Lib.hid hk
 have HN := Lib.hid hn
 obtain ⟨r, hr⟩ : ∃ r, r = decide (l = k) := ⟨_, rfl⟩
 rw [← hr]
 have HR := Lib.hid hr
 obtain ⟨W0, hW0⟩ : ∃ W0, W0 = (w.alloc (.cells (tr ⟨⟨p, n, cl⟩⟩) 24)).alloc (.cells (tr ⟨⟨q, n, ck⟩⟩) 24) := ⟨_, rfl⟩
 have HB : Hid (Below w.heap.size w W0) := by rw [hW0]; exact zac below1 below1
 have M0 : Hid (W0.heap[w.heap.size]? = some (.cells (tr ⟨⟨p, n, cl⟩⟩) 24 (0, 0))) := by rw [hW0]; exact zab below1 (heap_alloc_last w _)
 have N0 : Hid (W0.heap[w.heap.size + 1]? = some (.cells (tr ⟨⟨q, n, ck⟩⟩) 24 (0, 0))) := by
  show W0.heap[w.heap.size + 1]? = _
  rw [hW0]
  have := heap_alloc_last (w.alloc (.cells (tr ⟨⟨p, n, cl⟩⟩) 24)) (.cells (tr ⟨⟨q, n, ck⟩⟩) 24 (0, 0))
  rwa [World.size_alloc] at this
 have HS := Lib.hid (zad HB.out h)
 have HT := Lib.hid (zad HB.out h')
 have HW := Lib.hid hW0
 clear h h' hl hk hn hr hW0
 go_enter Tryz.func28, Tryz.ntmps28
 go_wp2_with fail
 rw [← HW.out]
 go_loopw [5] (fun i wr => ∃ j : Nat, j ≤ n ∧ i = .int .i64 j ∧ (∀ x, x < j → nd l x = nd k x) ∧ Below W0.heap.size W0 wr) (fun i _ => n - (intOf i).toNat)
 case atStart => exact ⟨0, Nat.zero_le _, rfl, fun x hx => absurd hx (Nat.not_lt_zero _), Below.refl _ _⟩
 case round =>
  obtain ⟨j, hj, rfl, hx, hb⟩ := hrel
  have HX := Lib.hid hx
  have HBB := Lib.hid hb
  obtain ⟨z0, z1, zl⟩ := zaw (zab hb M0.out)
  obtain ⟨z3, z4, zl2⟩ := zaw (zab hb N0.out)
  dsimp only at z0 z3
  rw [za7] at z0 z3
  clear hx hb
  by_cases hlt : j < n
  ·
   have i0 : (0 : Int) ≤ (j : Int) := by omega
   have i1 : (j : Int) < (n : Int) := by omega
   have u1 : (j : Int) + 1 < 10000 := by have := HN.out; omega
   obtain ⟨b1, o1, c1, e1, _, q1, x1⟩ := zdm HS.out (by have := HL.out; omega)
   injection e1 with e2 _ e3
   subst e2 e3
   obtain ⟨b2, o2, c2, e1, _, q2, x2⟩ := zdm HT.out (by have := HK.out; omega)
   injection e1 with e2 _ e3
   subst e2 e3
   have y1 : ldA wr (.pointer (some ⟨b1, o1 + j * 35, none⟩)) 35 = some (ne (nd l j)) := keep HBB.out (zjv x1 (by have := HL.out; omega))
   have y2 : ldA wr (.pointer (some ⟨b2, o2 + j * 35, none⟩)) 35 = some (ne (nd k j)) := keep HBB.out (zjv x2 (by have := HK.out; omega))
   clear x1 x2 q1 q2
   by_cases he : nd l j = nd k j
   ·
    have HE := Lib.hid he
    rw [he] at y1
    clear he
    go_wp2_with fail
    go_quiet (fail)
    go_wp2_with fail
    go_roundw
    case rel => exact ⟨j + 1, by omega, by go_num, fun x hx => by
     rcases Nat.lt_succ_iff_lt_or_eq.1 hx with h | rfl
     ·
      exact HX.out x h
     ·
      exact HE.out, zak HBB.out _⟩
    case measure => simp [intOf]; omega
   ·
    have hR : Hid (r = false) := by
     show r = false
     rw [HR.out, decide_eq_false_iff_not]
     intro e; exact he (by rw [e])
    have t1 : decide (nd l j = nd k j) = false := decide_eq_false he
    clear he
    go_wp2_with fail
    go_quiet (fail)
    go_wp2_with fail
    go_ret
    exact ⟨by rw [hR.out]; first | done | rfl, zac HB.out (zak HBB.out _)⟩
  ·
   obtain rfl : j = n := by omega
   have hR : Hid (r = true) := by
    show r = true
    rw [HR.out, decide_eq_true_iff]
    exact yju (by rw [HL.out, HK.out]) fun i hi => HX.out i (by have := HK.out; omega)
   go_wp2_with fail
   go_ret
   exact ⟨by rw [hR.out]; first | done | rfl, zac HB.out HBB.out⟩
theorem ynl (s t : SlV) (l k : List Nd) (w : World) (h : SlE Ene w (sv s) l) (h' : SlE Ene w (sv t) k) (hn : l.length ≤ 1000) :
  Calls Tryz.prog 28 #[.agg (tr ⟨s⟩), .agg (tr ⟨t⟩)] w fun e w' => e = .returned (.bool (decide (l = k))) ∧ Below w.heap.size w w' := by
 have hs := zcn h
 have ht := zcn h'
 obtain ⟨p, n, cl⟩ := s
 obtain ⟨q, m, ck⟩ := t
 dsimp only at hs ht
 by_cases e : n = m
 ·
  subst e
  exact z7j p q n cl ck l k w h h' hs ht (by omega)
 ·
  rw [decide_eq_false (fun he => e (by rw [← hs, ← ht, he]))]
  exact z7k p q n m cl ck w e
theorem ycv (x y : Sn) (s t : Sg) (w : World) (h : LaidS w x s) (h' : LaidS w y t) (hn : s.t.length ≤ 1000) :
  Calls Tryz.prog 11 #[.agg (sn x), .agg (sn y)] w fun e w' => e = .returned (.bool (decide (s = t))) ∧ Below w.heap.size w w' := by
 obtain ⟨W0, hW0⟩ : ∃ W0, W0 = (w.alloc (.cells (sn x) 40)).alloc (.cells (sn y) 40) := ⟨_, rfl⟩
 obtain ⟨hB, q0, q1, _⟩ := zdb w _ _ _ _ W0 hW0
 have A : Hid (Sw w W0 w.heap.size x s) := ⟨q0, h.keep hB, hB⟩
 have B : Hid (Sw w W0 (w.heap.size + 1) y t) := ⟨q1, h'.keep hB, hB⟩
 have HW := Lib.hid hW0
 have H1 := Lib.hid (fun W a b => ynl x.t.n y.t.n s.t t.t W a b hn)
 obtain ⟨a1, e1⟩ : ∃ a, a = decide (s.t = t.t) := ⟨_, rfl⟩
 obtain ⟨a2, e2⟩ : ∃ a, a = (s.ver == t.ver) := ⟨_, rfl⟩
 obtain ⟨a3, e3⟩ : ∃ a, a = eqB s.head t.head := ⟨_, rfl⟩
 obtain ⟨a4, e4⟩ : ∃ a, a = decide (s.just = t.just) := ⟨_, rfl⟩
 obtain ⟨a5, e5⟩ : ∃ a, a = decide (s.fin = t.fin) := ⟨_, rfl⟩
 have HF : Hid (decide (s = t) = (a1 && (a2 && (a3 && (a4 && a5))))) := by
  show _ = _
  rw [e1, e2, e3, e4, e5, Bool.eq_iff_iff]
  simp only [Bool.and_eq_true, decide_eq_true_iff, beq_iff_eq, zie]
  constructor
  ·
   rintro rfl; exact ⟨rfl, rfl, rfl, rfl, rfl⟩
  ·
   rintro ⟨h1, h2, h3, h4, h5⟩
   exact Sg.ext h2 h1 h3 h4 h5
 have t2 := e2.symm
 have t2' : decide (s.ver = t.ver) = a2 := by rw [e2, Bool.eq_iff_iff, decide_eq_true_iff, beq_iff_eq]
 have t3 := e3.symm
 have t4 := e4.symm
 have t5 := e5.symm
 rw [← e1] at H1
 obtain ⟨r, hr⟩ : ∃ r, r = decide (s = t) := ⟨_, rfl⟩
 rw [← hr] at HF ⊢
 clear hW0 hB q0 q1 h h' hn e1 e2 e3 e4 e5 hr
 go_enter Tryz.func11, Tryz.ntmps11
 go_upto_region 1 with fail
 rw [← HW.out]
 have za := A.out.zT
 have zc := B.out.zT
 go_wp2_with fail
 refine (H1.out _ A.out.l.t B.out.l.t).mono ?_
 rintro e w1 ⟨rfl, gg⟩
 replace A := Lib.hid (A.out.keep gg)
 replace B := Lib.hid (B.out.keep gg)
 clear za zc gg H1
 have x1 := A.out.zv
 have x2 := B.out.zv
 have x3 := A.out.zh
 have x4 := B.out.zh
 have x5 := A.out.zj
 have x6 := B.out.zj
 have x7 := A.out.zf
 have x8 := B.out.zf
 cases a1
 ·
  go_wp2_with fail
  go_ret
  exact ⟨by rw [HF.out]; first | done | rfl | simp, A.out.g⟩
 ·
  cases a2
  ·
   go_wp2_with fail
   go_ret
   exact ⟨by rw [HF.out]; first | done | rfl | simp, A.out.g⟩
  ·
   cases a3
   ·
    go_wp2_with fail
    go_ret
    exact ⟨by rw [HF.out]; first | done | rfl | simp, A.out.g⟩
   ·
    cases a4
    ·
     go_wp2_with fail
     go_ret
     exact ⟨by rw [HF.out]; first | done | rfl | simp, A.out.g⟩
    ·
     cases a5
     ·
      go_wp2_with fail
      go_ret
      exact ⟨by rw [HF.out]; first | done | rfl | simp, A.out.g⟩
     ·
      go_wp2_with fail
      go_ret
      exact ⟨by rw [HF.out]; first | done | rfl | simp, A.out.g⟩
theorem z11 (H : zn1) (HX : zdn) (HE : z8o) (x : En) (g : Eg) (b : Bk) (c : Cl) (w : World) (h : LaidG w x g) :
  Calls Tryz.prog 8 #[.agg (en x), .agg (bk b), .agg (cl c)] w fun e w' => e = .returned (.bool true) ∧ Below w.heap.size w w' := by
 obtain ⟨W0, hW0⟩ : ∃ W0, W0 = (((w.alloc (.cells (en x) 38)).alloc (.cells (bk b) 71)).alloc (.cells (cl c) 43)) := ⟨_, rfl⟩
 obtain ⟨hB, q0, q1, q2, _⟩ := zft w _ _ _ _ _ _ W0 hW0
 have A : Hid (Gv w W0 w.heap.size x g) := ⟨q0, h.keep hB, hB⟩
 have MB : Hid (W0.heap[w.heap.size + 1]? = some (.cells (bk b) 71 (0, 0))) := q1
 have MC : Hid (W0.heap[w.heap.size + 1 + 1]? = some (.cells (cl c) 43 (0, 0))) := q2
 have HW := Lib.hid hW0
 have HAw := Lib.hid (fun W => zfp H HX W)
 obtain ⟨f, hf⟩ : ∃ f, f = fewG g := ⟨_, rfl⟩
 have HFw := Lib.hid (fun W (hh : LaidG W x g) => yls x g W hh)
 rw [← hf] at HFw
 have HFt : Hid (f = true → zcv g ∧ g.j.length ≤ 24) := fun e => zla (hf.symm.trans e)
 have HH := Lib.hid H
 have HY := Lib.hid HX
 have HG := Lib.hid HE
 clear hW0 hB q0 q1 q2 h hf H HX HE
 go_enter Tryz.func8, Tryz.ntmps8
 go_upto_region 1 with fail
 rw [← HW.out]
 go_wp2_with fail
 refine (HAw.out _).mono ?_
 rintro e w1 ⟨rfl, g⟩
 replace A := Lib.hid (A.out.keep g)
 replace MB := Lib.hid (zab g MB.out)
 replace MC := Lib.hid (zab g MC.out)
 clear g
 have z := A.out.z
 go_wp2_with fail
 refine (HFw.out _ A.out.l).mono ?_
 rintro e w2 ⟨rfl, g⟩
 replace A := Lib.hid (A.out.keep g)
 replace MB := Lib.hid (zab g MB.out)
 replace MC := Lib.hid (zab g MC.out)
 clear g z
 cases f
 ·
  go_wp2_with fail
  go_ret
  exact ⟨rfl, A.out.g⟩
 ·
  obtain ⟨sm, sj⟩ := HFt.out rfl
  obtain ⟨m, hm⟩ : ∃ m, m = mayG g := ⟨_, rfl⟩
  have HMy := Lib.hid (fun W hh => HG.out.may x g W hh sm)
  rw [← hm] at HMy
  have HMt : Hid (m = true → MayS' g) := fun e => zhx.1 (hm.symm.trans e)
  have SM := Lib.hid sm
  have SJ := Lib.hid sj
  clear hm sm sj HFt HFw HAw HW
  have z := A.out.z
  go_wp2_with fail
  refine (HMy.out _ A.out.l).mono ?_
  rintro e w3 ⟨rfl, g⟩
  replace A := Lib.hid (A.out.keep g)
  replace MB := Lib.hid (zab g MB.out)
  replace MC := Lib.hid (zab g MC.out)
  clear g z
  cases m
  ·
   go_wp2_with fail
   go_ret
   exact ⟨rfl, A.out.g⟩
  ·
   have MS := Lib.hid (HMt.out rfl)
   clear HMt HMy
   have MG := Lib.hid (yo7 MS.out b)
   have SG := Lib.hid (zyd MG.out (by have := yjf MS.out (.block b); have h2 : (doG g (.block b)).j = (blkG g b).j := rfl; rw [h2] at this; have := SJ.out; omega))
   have HBl := Lib.hid (fun W hh => HG.out.block x g b W hh SM.out)
   obtain ⟨E, hE⟩ : ∃ E, E = ze9 g b := ⟨_, rfl⟩
   rw [← hE] at HBl
   have HEr : Hid (E ≠ 0 → blkG g b = g) := fun e => yk1 (by rw [← hE]; exact e)
   have HLw : Hid (E = 0 → _) := fun e => zu6 MS.out (hE.symm.trans e) 1
   clear hE
   obtain ⟨G, hG⟩ : ∃ G, G = blkG g b := ⟨_, rfl⟩
   rw [← hG] at HBl HLw MG SG HEr
   clear hG
   have HO := Lib.hid (fun W hh => HH.out.of x g 1 W hh SM.out)
   have HO2 := Lib.hid (fun y W hh => HH.out.of y G 1 W hh SG.out)
   have HTl : Hid ((ofE g 1).t.length ≤ 1000 ∧ (ofE G 1).t.length ≤ 1000) := ⟨by rw [zgo MS.out]; exact SM.out.t, by rw [zgo MG.out]; exact SG.out.t⟩
   have HSq : Hid (E ≠ 0 → ofE g 1 = ofE G 1) := fun e => by rw [HEr.out e]
   obtain ⟨s, hs⟩ : ∃ s, s = ofE g 1 := ⟨_, rfl⟩
   obtain ⟨t, ht⟩ : ∃ t, t = ofE G 1 := ⟨_, rfl⟩
   rw [← hs] at HLw HO HTl HSq
   rw [← ht] at HLw HO2 HTl HSq
   clear hs ht
   have HSa := Lib.hid (fun y z W h1 h2 => ycv y z s t W h1 h2 HTl.out.1)
   obtain ⟨d, hd⟩ : ∃ d, d = decide (s = t) := ⟨_, rfl⟩
   rw [← hd] at HSa
   have HD : Hid (E ≠ 0 → d = true) := fun e => by rw [hd]; exact decide_eq_true (HSq.out e)
   have HAs := Lib.hid (fun y W hh => HH.out.ask y s c W hh)
   have HAt := Lib.hid (fun y W hh => HH.out.ask y t c W hh)
   clear hd HSq HEr HH HY HG MS MG
   have z := A.out.z
   have zm := zag MB.out (zj1 _)
   go_wp2_with fail
   refine (HBl.out _ A.out.l).mono ?_
   rintro e w4 ⟨x2, rfl, h2, g2⟩
   clear z zm HBl
   have F := Lib.hid (yan (zac A.out.g g2) h2)
   replace A := Lib.hid (A.out.keep (zac g2 (below1 (o := .cells (en x2) 38))))
   replace MB := Lib.hid (zab (zac g2 (below1 (o := .cells (en x2) 38))) MB.out)
   replace MC := Lib.hid (zab (zac g2 (below1 (o := .cells (en x2) 38))) MC.out)
   clear g2 h2
   have z := A.out.z
   go_wp2_with fail
   refine (HO.out _ A.out.l).mono ?_
   rintro e w5 ⟨x3, rfl, h2, g⟩
   have S := Lib.hid (ztw (zac A.out.g g) h2)
   replace A := Lib.hid (A.out.keep (zac g (below1 (o := .cells (sn x3) 40))))
   replace MB := Lib.hid (zab (zac g (below1 (o := .cells (sn x3) 40))) MB.out)
   replace MC := Lib.hid (zab (zac g (below1 (o := .cells (sn x3) 40))) MC.out)
   replace F := Lib.hid (F.out.keep (zac g (below1 (o := .cells (sn x3) 40))))
   clear g h2 z HO
   have z := F.out.z
   go_wp2_with fail
   refine (HO2.out _ _ F.out.l).mono ?_
   rintro e w6 ⟨x4, rfl, h2, g⟩
   have V := Lib.hid (ztw (zac A.out.g g) h2)
   replace A := Lib.hid (A.out.keep (zac g (below1 (o := .cells (sn x4) 40))))
   replace MB := Lib.hid (zab (zac g (below1 (o := .cells (sn x4) 40))) MB.out)
   replace MC := Lib.hid (zab (zac g (below1 (o := .cells (sn x4) 40))) MC.out)
   replace F := Lib.hid (F.out.keep (zac g (below1 (o := .cells (sn x4) 40))))
   replace S := Lib.hid (S.out.keep (zac g (below1 (o := .cells (sn x4) 40))))
   clear g h2 z HO2
   have z1 := S.out.z
   have z2 := V.out.z
   go_wp2_with fail
   refine (HSa.out _ _ _ S.out.l V.out.l).mono ?_
   rintro e w7 ⟨rfl, g⟩
   replace A := Lib.hid (A.out.keep g)
   replace MB := Lib.hid (zab g MB.out)
   replace MC := Lib.hid (zab g MC.out)
   replace F := Lib.hid (F.out.keep g)
   replace S := Lib.hid (S.out.keep g)
   replace V := Lib.hid (V.out.keep g)
   clear g z1 z2 HSa
   by_cases h0 : E = 0
   ·
    subst h0
    obtain ⟨l1, l2, l3⟩ := HLw.out rfl
    have L3 := Lib.hid (l3 c.kind c.a c.b c.slot.toNat)
    have c1 := zfr MC.out
    have c2 := zoi MC.out
    have c3 := zt9 MC.out
    have yb := zj0 MB.out
    have L1 := Lib.hid l1
    have L2 := Lib.hid l2
    clear l1 l2 l3
    by_cases h5 : c.kind = 5
    ·
     have k5 : decide (c.kind = 5) = true := decide_eq_true h5
     have k5b : (c.kind == 5) = true := by rw [h5]; rfl
     clear h5
     have y3 := S.out.zf
     rw [L1.out] at y3
     have y4 := V.out.zf
     have y5 := S.out.zj
     rw [L2.out] at y5
     have y6 := V.out.zj
     have z1 := S.out.z
     have z2 := V.out.z
     have zc := zag MC.out (zec _)
     go_upto_region 12 with fail
     have L0 := fun p : Wd w7.drew => za8 y3 (by decide) p
     have L1 := fun p : Wd w7.drew => za8 y4 (by decide) p
     have L2 := fun p : Wd w7.drew => za8 y5 (by decide) p
     have L3 := fun p : Wd w7.drew => za8 y6 (by decide) p
     have L4 := fun p : Wd w7.drew => za8 z1 (by decide) p
     have L5 := fun p : Wd w7.drew => za8 z2 (by decide) p
     have L6 := fun p : Wd w7.drew => za8 zc (by decide) p
     clear y3 y4 y5 y6 z1 z2 zc
     refine zan [17, 20] (by kernel_rfl) (by kernel_rfl) (by kernel_rfl) ?_
     repeat (first | (refine zae rfl rfl _ zaf ?_; (first | go_big_quiet_step (fail) | quiet_step (fail)); refine wpQuiet_nil ?_) | refine zah rfl ?_)
     refine zbd ?_
     clear L0 L1 L2 L3 L4 L5 L6
     replace A := Lib.hid (A.out.keep (show Below w7.heap.size w7 w7.drew from zak (Below.refl _ _) 1))
     replace MB := Lib.hid (zab (show Below w7.heap.size w7 w7.drew from zak (Below.refl _ _) 1) MB.out)
     replace MC := Lib.hid (zab (show Below w7.heap.size w7 w7.drew from zak (Below.refl _ _) 1) MC.out)
     replace F := Lib.hid (F.out.keep (show Below w7.heap.size w7 w7.drew from zak (Below.refl _ _) 1))
     replace S := Lib.hid (S.out.keep (show Below w7.heap.size w7 w7.drew from zak (Below.refl _ _) 1))
     replace V := Lib.hid (V.out.keep (show Below w7.heap.size w7 w7.drew from zak (Below.refl _ _) 1))
     generalize w7.drew = w8 at *
     go_wp2_with fail
     go_ret
     exact ⟨rfl, A.out.g⟩
    ·
     have k5 : decide (c.kind = 5) = false := decide_eq_false h5
     have k5b : (c.kind == 5) = false := by rw [beq_eq_false_iff_ne]; exact h5
     by_cases ha : c.a = b.root
     ·
      have ta : eqB c.a b.root = true := (zie _ _).2 ha
      clear h5 ha
      have y3 := S.out.zf
      rw [L1.out] at y3
      have y4 := V.out.zf
      have y5 := S.out.zj
      rw [L2.out] at y5
      have y6 := V.out.zj
      have z1 := S.out.z
      have z2 := V.out.z
      have zc := zag MC.out (zec _)
      go_upto_region 12 with fail
      have L0 := fun p : Wd w7.drew => za8 y3 (by decide) p
      have L1 := fun p : Wd w7.drew => za8 y4 (by decide) p
      have L2 := fun p : Wd w7.drew => za8 y5 (by decide) p
      have L3 := fun p : Wd w7.drew => za8 y6 (by decide) p
      have L4 := fun p : Wd w7.drew => za8 z1 (by decide) p
      have L5 := fun p : Wd w7.drew => za8 z2 (by decide) p
      have L6 := fun p : Wd w7.drew => za8 zc (by decide) p
      clear y3 y4 y5 y6 z1 z2 zc
      refine zan [17, 20] (by kernel_rfl) (by kernel_rfl) (by kernel_rfl) ?_
      repeat (first | (refine zae rfl rfl _ zaf ?_; (first | go_big_quiet_step (fail) | quiet_step (fail)); refine wpQuiet_nil ?_) | refine zah rfl ?_)
      refine zbd ?_
      clear L0 L1 L2 L3 L4 L5 L6
      replace A := Lib.hid (A.out.keep (show Below w7.heap.size w7 w7.drew from zak (Below.refl _ _) 1))
      replace MB := Lib.hid (zab (show Below w7.heap.size w7 w7.drew from zak (Below.refl _ _) 1) MB.out)
      replace MC := Lib.hid (zab (show Below w7.heap.size w7 w7.drew from zak (Below.refl _ _) 1) MC.out)
      replace F := Lib.hid (F.out.keep (show Below w7.heap.size w7 w7.drew from zak (Below.refl _ _) 1))
      replace S := Lib.hid (S.out.keep (show Below w7.heap.size w7 w7.drew from zak (Below.refl _ _) 1))
      replace V := Lib.hid (V.out.keep (show Below w7.heap.size w7 w7.drew from zak (Below.refl _ _) 1))
      generalize w7.drew = w8 at *
      go_wp2_with fail
      go_ret
      exact ⟨rfl, A.out.g⟩
     ·
      have ta : eqB c.a b.root = false := Bool.eq_false_iff.2 fun e => ha ((zie _ _).1 e)
      by_cases hb : c.b = b.root
      ·
       have tb : eqB c.b b.root = true := (zie _ _).2 hb
       clear h5 ha hb
       have y3 := S.out.zf
       rw [L1.out] at y3
       have y4 := V.out.zf
       have y5 := S.out.zj
       rw [L2.out] at y5
       have y6 := V.out.zj
       have z1 := S.out.z
       have z2 := V.out.z
       have zc := zag MC.out (zec _)
       go_upto_region 12 with fail
       have L0 := fun p : Wd w7.drew => za8 y3 (by decide) p
       have L1 := fun p : Wd w7.drew => za8 y4 (by decide) p
       have L2 := fun p : Wd w7.drew => za8 y5 (by decide) p
       have L3 := fun p : Wd w7.drew => za8 y6 (by decide) p
       have L4 := fun p : Wd w7.drew => za8 z1 (by decide) p
       have L5 := fun p : Wd w7.drew => za8 z2 (by decide) p
       have L6 := fun p : Wd w7.drew => za8 zc (by decide) p
       clear y3 y4 y5 y6 z1 z2 zc
       refine zan [17, 20] (by kernel_rfl) (by kernel_rfl) (by kernel_rfl) ?_
       repeat (first | (refine zae rfl rfl _ zaf ?_; (first | go_big_quiet_step (fail) | quiet_step (fail)); refine wpQuiet_nil ?_) | refine zah rfl ?_)
       refine zbd ?_
       clear L0 L1 L2 L3 L4 L5 L6
       replace A := Lib.hid (A.out.keep (show Below w7.heap.size w7 w7.drew from zak (Below.refl _ _) 1))
       replace MB := Lib.hid (zab (show Below w7.heap.size w7 w7.drew from zak (Below.refl _ _) 1) MB.out)
       replace MC := Lib.hid (zab (show Below w7.heap.size w7 w7.drew from zak (Below.refl _ _) 1) MC.out)
       replace F := Lib.hid (F.out.keep (show Below w7.heap.size w7 w7.drew from zak (Below.refl _ _) 1))
       replace S := Lib.hid (S.out.keep (show Below w7.heap.size w7 w7.drew from zak (Below.refl _ _) 1))
       replace V := Lib.hid (V.out.keep (show Below w7.heap.size w7 w7.drew from zak (Below.refl _ _) 1))
       generalize w7.drew = w8 at *
       go_wp2_with fail
       go_ret
       exact ⟨rfl, A.out.g⟩
      ·
       have tb : eqB c.b b.root = false := Bool.eq_false_iff.2 fun e => hb ((zie _ _).1 e)
       have HC : Hid (¬ (c.kind = 5 ∨ c.a = b.root ∨ c.b = b.root)) := fun e => e.elim h5 fun e => e.elim ha hb
       clear h5 ha hb
       have y3 := S.out.zf
       rw [L1.out] at y3
       have y4 := V.out.zf
       have y5 := S.out.zj
       rw [L2.out] at y5
       have y6 := V.out.zj
       have z1 := S.out.z
       have z2 := V.out.z
       have zc := zag MC.out (zec _)
       rw [L3.out HC.out] at HAs
       obtain ⟨R, hR⟩ : ∃ R, R = rsOf (askN t c.kind c.a c.b c.slot.toNat) := ⟨_, rfl⟩
       rw [← hR] at HAs HAt
       clear hR
       go_upto_region 12 with fail
       have L0 := fun p : Wd w7.drew => za8 y3 (by decide) p
       have L1 := fun p : Wd w7.drew => za8 y4 (by decide) p
       have L2 := fun p : Wd w7.drew => za8 y5 (by decide) p
       have L3 := fun p : Wd w7.drew => za8 y6 (by decide) p
       have L4 := fun p : Wd w7.drew => za8 z1 (by decide) p
       have L5 := fun p : Wd w7.drew => za8 z2 (by decide) p
       have L6 := fun p : Wd w7.drew => za8 zc (by decide) p
       clear y3 y4 y5 y6 z1 z2 zc
       refine zan [17, 20] (by kernel_rfl) (by kernel_rfl) (by kernel_rfl) ?_
       repeat (first | (refine zae rfl rfl _ zaf ?_; (first | go_big_quiet_step (fail) | quiet_step (fail)); refine wpQuiet_nil ?_) | refine zah rfl ?_)
       refine zau rfl rfl rfl zb4 #[.agg (sn x3), .agg (cl c)] rfl ?_
       refine (HAs.out _ _ (S.out.l.keep (zak (Below.refl _ _) 1))).mono ?_
       rintro e u ⟨rfl, g⟩
       refine ⟨_, rfl, g, ?_⟩
       simp only [Act.put, List.setIfInBounds_toArray, List.set_cons_zero, List.set_cons_succ]
       have GB : Hid (Below w7.heap.size w7 u) := zac (zak (Below.refl _ _) 1) g
       clear g
       repeat (first | (refine zae rfl rfl _ zaf ?_; (first | go_big_quiet_step (fail) | quiet_step (fail)); refine wpQuiet_nil ?_) | refine zah rfl ?_)
       refine zau rfl rfl rfl zb4 #[.agg (sn x4), .agg (cl c)] rfl ?_
       refine (HAt.out _ _ (V.out.l.keep GB.out)).mono ?_
       rintro e u ⟨rfl, g⟩
       refine ⟨_, rfl, g, ?_⟩
       simp only [Act.put, List.setIfInBounds_toArray, List.set_cons_zero, List.set_cons_succ]
       replace GB : Hid (Below w7.heap.size w7 u) := zac GB.out g
       clear g
       repeat (first | (refine zae rfl rfl _ zaf ?_; (first | go_big_quiet_step (fail) | quiet_step (fail)); refine wpQuiet_nil ?_) | refine zah rfl ?_)
       refine zbd ?_
       clear L0 L1 L2 L3 L4 L5 L6
       replace A := Lib.hid (A.out.keep GB.out)
       replace MB := Lib.hid (zab GB.out MB.out)
       replace MC := Lib.hid (zab GB.out MC.out)
       replace F := Lib.hid (F.out.keep GB.out)
       replace S := Lib.hid (S.out.keep GB.out)
       replace V := Lib.hid (V.out.keep GB.out)
       clear GB
       obtain ⟨w8, rfl⟩ : ∃ W : World, W = u := ⟨_, rfl⟩
       go_wp2_with fail
       go_ret
       exact ⟨rfl, A.out.g⟩
   ·
    have t1 : ((E : Int) == 0) = false := by rw [beq_eq_false_iff_ne]; omega
    have t2 : (E == 0) = false := by rw [beq_eq_false_iff_ne]; exact h0
    have t3 : decide (E = 0) = false := decide_eq_false h0
    obtain rfl : d = true := HD.out h0
    clear h0 HLw HD
    go_wp2_with fail
    go_ret
    exact ⟨rfl, A.out.g⟩
theorem snapBlockL (H : zn1) (HX : zdn) (HE : z8o) (x : En) (g : Eg) (b : Bk) (c : Cl) (w : World) (h : LaidG w x g) :
  Calls Tryz.prog 8 #[.agg (en x), .agg (bk b), .agg (cl c)] w fun e w' => e = .returned (.bool true) ∧ Below w.heap.size w w' := by
 exact z11 H HX HE x g b c w h
theorem engB18 : z8o := ⟨fun x g w h sg => zg0 x g w h sg, fun x g b w h sg => zyv x g b w h sg⟩
end Go.Proofs.YtkalofboioffiaaGreat
