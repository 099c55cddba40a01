import Derived.Test.YtkalofboioffiaaGreatQF7
namespace Go.Proofs.YtkalofboioffiaaGreat
open Go.RowKit
set_option maxRecDepth 200000
set_option maxHeartbeats 64000000
theorem z12 (H : zn1) (HX : zdn) (HE : z8q) (x : En) (g : Eg) (c : Cl) (w : World) (h : LaidG w x g) :
  Calls Tryz.prog 5 #[.agg (en x), .agg (cl c)] w fun e w' => e = .returned (.bool true) ∧ Below w.heap.size w w' := by
 obtain ⟨W0, hW0⟩ : ∃ W0, W0 = ((w.alloc (.cells (en x) 38)).alloc (.cells (cl c) 43)) := ⟨_, rfl⟩
 obtain ⟨hB, q0, q1, _⟩ := zdb w _ _ _ _ W0 hW0
 have A : Hid (Gv w W0 w.heap.size x g) := ⟨q0, h.keep hB, hB⟩
 have MC : Hid (W0.heap[w.heap.size + 1]? = some (.cells (cl c) 43 (0, 0))) := q1
 have HW := Lib.hid hW0
 have HAw := Lib.hid (fun W => zfp H HX W)
 obtain ⟨f, hf⟩ : ∃ f, f = fewG g := ⟨_, rfl⟩
 have HFw := Lib.hid (fun W (hh : LaidG W x g) => yls x g W hh)
 rw [← hf] at HFw
 have HFt : Hid (f = true → zcv g ∧ g.j.length ≤ 24) := fun e => zla (hf.symm.trans e)
 have HH := Lib.hid H
 have HY := Lib.hid HX
 have HG := Lib.hid HE
 clear hW0 hB q0 q1 h hf H HX HE
 go_enter Tryz.func5, Tryz.ntmps5
 go_upto_region 1 with fail
 rw [← HW.out]
 go_wp2_with fail
 refine (HAw.out _).mono ?_
 rintro e w1 ⟨rfl, g⟩
 replace A := Lib.hid (A.out.keep g)
 replace MC := Lib.hid (zab g MC.out)
 clear g
 have z := A.out.z
 go_wp2_with fail
 refine (HFw.out _ A.out.l).mono ?_
 rintro e w2 ⟨rfl, g⟩
 replace A := Lib.hid (A.out.keep g)
 replace MC := Lib.hid (zab g MC.out)
 clear g z
 cases f
 ·
  go_wp2_with fail
  go_ret
  exact ⟨rfl, A.out.g⟩
 ·
  obtain ⟨sm, sj⟩ := HFt.out rfl
  obtain ⟨m, hm⟩ : ∃ m, m = mayG g := ⟨_, rfl⟩
  have HMy := Lib.hid (fun W hh => HG.out.may x g W hh sm)
  rw [← hm] at HMy
  have HMt : Hid (m = true → MayS' g) := fun e => zhx.1 (hm.symm.trans e)
  have SM := Lib.hid sm
  have SJ := Lib.hid sj
  clear hm sm sj HFt HFw HAw HW
  have z := A.out.z
  go_wp2_with fail
  refine (HMy.out _ A.out.l).mono ?_
  rintro e w3 ⟨rfl, g⟩
  replace A := Lib.hid (A.out.keep g)
  replace MC := Lib.hid (zab g MC.out)
  clear g z
  cases m
  ·
   go_wp2_with fail
   go_ret
   exact ⟨rfl, A.out.g⟩
  ·
   have MS := Lib.hid (HMt.out rfl)
   clear HMt HMy
   obtain ⟨p1, _⟩ := yhk MS.out
   have MG := Lib.hid (pr_G MS.out)
   have hl := zu7 MS.out 1
   have SG : Hid (zcv (prG g)) := zyd MG.out (by have := yjf MS.out .prune; have h2 : (doG g .prune).j = (prG g).j := rfl; rw [h2] at this; have := SJ.out; omega)
   obtain ⟨G, hG⟩ : ∃ G, G = prG g := ⟨_, rfl⟩
   have HPr := Lib.hid (fun W hh => HG.out.prune x g W hh SM.out)
   rw [← hG] at HPr hl MG SG
   have HO := Lib.hid (fun W hh => HH.out.of x g 1 W hh SM.out)
   have HO2 := Lib.hid (fun y W hh => HH.out.of y G 1 W hh SG.out)
   obtain ⟨s, hs⟩ : ∃ s, s = ofE g 1 := ⟨_, rfl⟩
   obtain ⟨t, ht⟩ : ∃ t, t = ofE G 1 := ⟨_, rfl⟩
   rw [← hs] at hl HO
   rw [← ht] at hl HO2
   clear hs ht hG p1
   obtain ⟨l1, l2, l3, l4, l5, i, l6, l7, l8⟩ := hl
   rw [← l4] at l6 l7
   rw [← l5] at l8
   have hsl : sl g.t i = (nd s.t i).slot.toNat := by rw [← l4]; rfl
   rw [hsl] at l8
   have L1 := Lib.hid l1
   have L2 := Lib.hid l2
   have L3 := Lib.hid l3
   have L6 := Lib.hid l6
   have L8 := Lib.hid (l8 c.kind c.a c.b c.slot.toNat)
   have HFf := Lib.hid (fun u W hh => HY.out.find u s.t s.fin.root W hh)
   rw [l7] at HFf
   obtain ⟨XA, hA⟩ : ∃ X, X = zal t.t c.a := ⟨_, rfl⟩
   obtain ⟨XB, hB⟩ : ∃ X, X = zal t.t c.b := ⟨_, rfl⟩
   have HFa := Lib.hid (fun u W hh => HY.out.find u t.t c.a W hh)
   have HFb := Lib.hid (fun u W hh => HY.out.find u t.t c.b W hh)
   rw [← hA] at HFa L8
   rw [← hB] at HFb L8
   have HAs := Lib.hid (fun y W hh => HH.out.ask y s c W hh)
   have HAt := Lib.hid (fun y W hh => HH.out.ask y t c W hh)
   clear l1 l2 l3 l4 l5 l6 l7 l8 hsl hA hB HH HY HG MS MG
   have z := A.out.z
   go_wp2_with fail
   refine (HPr.out _ A.out.l).mono ?_
   rintro e w4 ⟨x2, rfl, h2, g2⟩
   clear z HPr
   have F := Lib.hid (yan (zac A.out.g g2) h2)
   replace A := Lib.hid (A.out.keep (zac g2 (below1 (o := .cells (en x2) 38))))
   replace MC := Lib.hid (zab (zac g2 (below1 (o := .cells (en x2) 38))) MC.out)
   clear g2 h2
   have z := A.out.z
   go_wp2_with fail
   refine (HO.out _ A.out.l).mono ?_
   rintro e w5 ⟨x3, rfl, h2, g⟩
   have S := Lib.hid (ztw (zac A.out.g g) h2)
   replace A := Lib.hid (A.out.keep (zac g (below1 (o := .cells (sn x3) 40))))
   replace MC := Lib.hid (zab (zac g (below1 (o := .cells (sn x3) 40))) MC.out)
   replace F := Lib.hid (F.out.keep (zac g (below1 (o := .cells (sn x3) 40))))
   clear g h2 z HO
   have z := F.out.z
   go_wp2_with fail
   refine (HO2.out _ _ F.out.l).mono ?_
   rintro e w6 ⟨x4, rfl, h2, g⟩
   have V := Lib.hid (ztw (zac A.out.g g) h2)
   replace A := Lib.hid (A.out.keep (zac g (below1 (o := .cells (sn x4) 40))))
   replace MC := Lib.hid (zab (zac g (below1 (o := .cells (sn x4) 40))) MC.out)
   replace F := Lib.hid (F.out.keep (zac g (below1 (o := .cells (sn x4) 40))))
   replace S := Lib.hid (S.out.keep (zac g (below1 (o := .cells (sn x4) 40))))
   clear g h2 z HO2
   have y1 := S.out.zh
   rw [L1.out] at y1
   have y2 := V.out.zh
   have y3 := S.out.zf
   rw [L2.out] at y3
   have y4 := V.out.zf
   have y5 := S.out.zj
   rw [L3.out] at y5
   have y6 := V.out.zj
   have te := zk7 t.head
   have zT := S.out.zT
   have zr := S.out.zr
   go_wp2_with fail
   refine (HFf.out _ _ S.out.l.t).mono ?_
   rintro e w7 ⟨rfl, g⟩
   replace A := Lib.hid (A.out.keep g)
   replace MC := Lib.hid (zab g MC.out)
   replace F := Lib.hid (F.out.keep g)
   replace S := Lib.hid (S.out.keep g)
   replace V := Lib.hid (V.out.keep g)
   clear g y1 y2 y3 y4 y5 y6 te zT zr HFf
   obtain ⟨⟨pt, nt, ct⟩, hst⟩ : ∃ s : SlV, s = x3.t.n := ⟨_, rfl⟩
   have HSt := Lib.hid hst
   have hnt := zek S.out.l.t
   rw [← hst] at hnt
   have HNt : Hid (s.t.length = nt) := hnt
   clear hst hnt
   have zt := S.out.zt
   rw [← HSt.out, za7] at zt
   obtain ⟨bq, oq, hpq, _, qq⟩ := zda (by have := S.out.l.t; rw [← HSt.out, za7] at this; exact this) (by rw [HNt.out]; have := L6.out; rw [HNt.out] at this; omega)
   subst hpq
   have hm2 := L6.out
   rw [HNt.out] at hm2
   have i0 : (0 : Int) ≤ (i : Int) := by omega
   have i1 : (i : Int) < (nt : Int) := by omega
   have t1 : decide ((i : Int) < 0) = false := decide_eq_false (by omega)
   have t2 : decide ((nt : Int) ≤ (i : Int)) = false := decide_eq_false (by omega)
   have t2' : decide (nt ≤ i) = false := decide_eq_false (by omega)
   have yj := zgh qq (i := i) L6.out
   obtain ⟨N, hN⟩ : ∃ N, N = (nd s.t i).slot.toNat := ⟨_, rfl⟩
   rw [← hN] at yj L8
   have zT := V.out.zT
   have c1 := zfr MC.out
   have c2 := zoi MC.out
   have c3 := zt9 MC.out
   have c4 := zpe MC.out
   clear hN qq hm2
   go_upto_region 13 with fail
   by_cases h6 : c.kind = 6
   ·
    have h7 : c.kind ≠ 7 := by omega
    have k6 : decide (c.kind = 6) = true := decide_eq_true h6
    have k6b : (c.kind == 6) = true := by rw [h6]; rfl
    have k7 : decide (c.kind = 7) = false := decide_eq_false h7
    have k7b : (c.kind == 7) = false := by rw [beq_eq_false_iff_ne]; exact h7
    by_cases ha : XA < 0
    ·
     have ta : decide (XA < 0) = true := decide_eq_true ha
     clear h6 h7 ha
     have L0 := fun p : Wd w7.drew => za8 zT (by decide) p
     have L1 := fun p : Wd w7.drew => zay zt p
     have L2 := fun p : Wd w7.drew => zay yj p
     have L3 := fun p : Wd w7.drew => zay c1 p
     have L4 := fun p : Wd w7.drew => za8 c2 (by decide) p
     have L5 := fun p : Wd w7.drew => za8 c3 (by decide) p
     have L6 := fun p : Wd w7.drew => zay c4 p
     clear zT zt yj c1 c2 c3 c4
     refine zan [8, 10, 23, 27, 32, 34, 39] (by kernel_rfl) (by kernel_rfl) (by kernel_rfl) ?_
     repeat (first | (refine zae rfl rfl _ zaf ?_; (first | go_big_quiet_step (fail) | quiet_step (fail)); refine wpQuiet_nil ?_) | refine zah rfl ?_)
     refine zau rfl rfl rfl zbk #[.agg (tr ⟨x4.t.n⟩), .agg (rc c.a)] rfl ?_
     refine (HFa.out _ _ (zad (zak (Below.refl _ _) 1) V.out.l.t)).mono ?_
     rintro e u ⟨rfl, g⟩
     refine ⟨_, rfl, g, ?_⟩
     simp only [Act.put, List.setIfInBounds_toArray, List.set_cons_zero, List.set_cons_succ]
     have GB : Hid (Below w7.heap.size w7 u) := zac (zak (Below.refl _ _) 1) g
     clear g
     repeat (first | (refine zae rfl rfl _ zaf ?_; (first | go_big_quiet_step (fail) | quiet_step (fail)); refine wpQuiet_nil ?_) | refine zah rfl ?_)
     refine zcd rfl rfl (.bool true) _ rfl (Below.refl _ _) ?_
     simp only [Act.put, List.setIfInBounds_toArray, List.set_cons_zero, List.set_cons_succ]
     repeat (first | (refine zae rfl rfl _ zaf ?_; (first | go_big_quiet_step (fail) | quiet_step (fail)); refine wpQuiet_nil ?_) | refine zah rfl ?_)
     refine zcd rfl rfl (.bool true) _ rfl (Below.refl _ _) ?_
     simp only [Act.put, List.setIfInBounds_toArray, List.set_cons_zero, List.set_cons_succ]
     repeat (first | (refine zae rfl rfl _ zaf ?_; (first | go_big_quiet_step (fail) | quiet_step (fail)); refine wpQuiet_nil ?_) | refine zah rfl ?_)
     refine zbd ?_
     clear L0 L1 L2 L3 L4 L5 L6
     replace A := Lib.hid (A.out.keep GB.out)
     replace MC := Lib.hid (zab GB.out MC.out)
     replace F := Lib.hid (F.out.keep GB.out)
     replace S := Lib.hid (S.out.keep GB.out)
     replace V := Lib.hid (V.out.keep GB.out)
     clear GB
     obtain ⟨w8, rfl⟩ : ∃ W : World, W = u := ⟨_, rfl⟩
     go_wp2_with fail
     go_quiet (fail)
     go_wp2_with fail
     go_ret
     exact ⟨rfl, zak A.out.g _⟩
    ·
     by_cases hs : c.slot.toNat < N
     ·
      have ta : decide (XA < 0) = false := decide_eq_false ha
      have ts : decide ((c.slot.toNat : Int) < (N : Int)) = true := decide_eq_true (by omega)
      have ts' : decide (c.slot.toNat < N) = true := decide_eq_true (by omega)
      clear h6 h7 ha hs
      have L0 := fun p : Wd w7.drew => za8 zT (by decide) p
      have L1 := fun p : Wd w7.drew => zay zt p
      have L2 := fun p : Wd w7.drew => zay yj p
      have L3 := fun p : Wd w7.drew => zay c1 p
      have L4 := fun p : Wd w7.drew => za8 c2 (by decide) p
      have L5 := fun p : Wd w7.drew => za8 c3 (by decide) p
      have L6 := fun p : Wd w7.drew => zay c4 p
      clear zT zt yj c1 c2 c3 c4
      refine zan [8, 10, 23, 27, 32, 34, 39] (by kernel_rfl) (by kernel_rfl) (by kernel_rfl) ?_
      repeat (first | (refine zae rfl rfl _ zaf ?_; (first | go_big_quiet_step (fail) | quiet_step (fail)); refine wpQuiet_nil ?_) | refine zah rfl ?_)
      refine zau rfl rfl rfl zbk #[.agg (tr ⟨x4.t.n⟩), .agg (rc c.a)] rfl ?_
      refine (HFa.out _ _ (zad (zak (Below.refl _ _) 1) V.out.l.t)).mono ?_
      rintro e u ⟨rfl, g⟩
      refine ⟨_, rfl, g, ?_⟩
      simp only [Act.put, List.setIfInBounds_toArray, List.set_cons_zero, List.set_cons_succ]
      have GB : Hid (Below w7.heap.size w7 u) := zac (zak (Below.refl _ _) 1) g
      clear g
      repeat (first | (refine zae rfl rfl _ zaf ?_; (first | go_big_quiet_step (fail) | quiet_step (fail)); refine wpQuiet_nil ?_) | refine zah rfl ?_)
      refine zcd rfl rfl (.bool false) _ rfl (Below.refl _ _) ?_
      simp only [Act.put, List.setIfInBounds_toArray, List.set_cons_zero, List.set_cons_succ]
      repeat (first | (refine zae rfl rfl _ zaf ?_; (first | go_big_quiet_step (fail) | quiet_step (fail)); refine wpQuiet_nil ?_) | refine zah rfl ?_)
      refine zcd rfl rfl (.bool true) _ rfl (Below.refl _ _) ?_
      simp only [Act.put, List.setIfInBounds_toArray, List.set_cons_zero, List.set_cons_succ]
      repeat (first | (refine zae rfl rfl _ zaf ?_; (first | go_big_quiet_step (fail) | quiet_step (fail)); refine wpQuiet_nil ?_) | refine zah rfl ?_)
      refine zbd ?_
      clear L0 L1 L2 L3 L4 L5 L6
      replace A := Lib.hid (A.out.keep GB.out)
      replace MC := Lib.hid (zab GB.out MC.out)
      replace F := Lib.hid (F.out.keep GB.out)
      replace S := Lib.hid (S.out.keep GB.out)
      replace V := Lib.hid (V.out.keep GB.out)
      clear GB
      obtain ⟨w8, rfl⟩ : ∃ W : World, W = u := ⟨_, rfl⟩
      go_wp2_with fail
      go_quiet (fail)
      go_wp2_with fail
      go_ret
      exact ⟨rfl, zak A.out.g _⟩
     ·
      have HC : Hid (¬ (c.kind = 6 ∧ (XA < 0 ∨ c.slot.toNat < N) ∨ c.kind = 7 ∧ (XA < 0 ∨ XB < 0))) := by show ¬ _; omega
      have ta : decide (XA < 0) = false := decide_eq_false ha
      have ts : decide ((c.slot.toNat : Int) < (N : Int)) = false := decide_eq_false (by omega)
      have ts' : decide (c.slot.toNat < N) = false := decide_eq_false (by omega)
      clear h6 h7 ha hs
      have L0 := fun p : Wd w7.drew => za8 zT (by decide) p
      have L1 := fun p : Wd w7.drew => zay zt p
      have L2 := fun p : Wd w7.drew => zay yj p
      have L3 := fun p : Wd w7.drew => zay c1 p
      have L4 := fun p : Wd w7.drew => za8 c2 (by decide) p
      have L5 := fun p : Wd w7.drew => za8 c3 (by decide) p
      have L6 := fun p : Wd w7.drew => zay c4 p
      clear zT zt yj c1 c2 c3 c4
      refine zan [8, 10, 23, 27, 32, 34, 39] (by kernel_rfl) (by kernel_rfl) (by kernel_rfl) ?_
      repeat (first | (refine zae rfl rfl _ zaf ?_; (first | go_big_quiet_step (fail) | quiet_step (fail)); refine wpQuiet_nil ?_) | refine zah rfl ?_)
      refine zau rfl rfl rfl zbk #[.agg (tr ⟨x4.t.n⟩), .agg (rc c.a)] rfl ?_
      refine (HFa.out _ _ (zad (zak (Below.refl _ _) 1) V.out.l.t)).mono ?_
      rintro e u ⟨rfl, g⟩
      refine ⟨_, rfl, g, ?_⟩
      simp only [Act.put, List.setIfInBounds_toArray, List.set_cons_zero, List.set_cons_succ]
      have GB : Hid (Below w7.heap.size w7 u) := zac (zak (Below.refl _ _) 1) g
      clear g
      repeat (first | (refine zae rfl rfl _ zaf ?_; (first | go_big_quiet_step (fail) | quiet_step (fail)); refine wpQuiet_nil ?_) | refine zah rfl ?_)
      refine zcd rfl rfl (.bool false) _ rfl (Below.refl _ _) ?_
      simp only [Act.put, List.setIfInBounds_toArray, List.set_cons_zero, List.set_cons_succ]
      repeat (first | (refine zae rfl rfl _ zaf ?_; (first | go_big_quiet_step (fail) | quiet_step (fail)); refine wpQuiet_nil ?_) | refine zah rfl ?_)
      refine zcd rfl rfl (.bool false) _ rfl (Below.refl _ _) ?_
      simp only [Act.put, List.setIfInBounds_toArray, List.set_cons_zero, List.set_cons_succ]
      repeat (first | (refine zae rfl rfl _ zaf ?_; (first | go_big_quiet_step (fail) | quiet_step (fail)); refine wpQuiet_nil ?_) | refine zah rfl ?_)
      refine zcd rfl rfl (.bool false) _ rfl (Below.refl _ _) ?_
      simp only [Act.put, List.setIfInBounds_toArray, List.set_cons_zero, List.set_cons_succ]
      repeat (first | (refine zae rfl rfl _ zaf ?_; (first | go_big_quiet_step (fail) | quiet_step (fail)); refine wpQuiet_nil ?_) | refine zah rfl ?_)
      refine zbd ?_
      clear L0 L1 L2 L3 L4 L5 L6
      replace A := Lib.hid (A.out.keep GB.out)
      replace MC := Lib.hid (zab GB.out MC.out)
      replace F := Lib.hid (F.out.keep GB.out)
      replace S := Lib.hid (S.out.keep GB.out)
      replace V := Lib.hid (V.out.keep GB.out)
      clear GB
      obtain ⟨w8, rfl⟩ : ∃ W : World, W = u := ⟨_, rfl⟩
      have hq := L8.out (HC.out)
      rw [hq] at HAs
      obtain ⟨R, hR⟩ : ∃ R, R = rsOf (askN t c.kind c.a c.b c.slot.toNat) := ⟨_, rfl⟩
      rw [← hR] at HAs HAt
      clear hR hq
      have z1 := S.out.z
      have z2 := V.out.z
      have zc := zag MC.out (zec _)
      go_upto_region 14 with fail
      have L0 := fun p : Wd w8.drew => za8 z1 (by decide) p
      have L1 := fun p : Wd w8.drew => za8 z2 (by decide) p
      have L2 := fun p : Wd w8.drew => za8 zc (by decide) p
      clear z1 z2 zc
      refine zan [4, 7] (by kernel_rfl) (by kernel_rfl) (by kernel_rfl) ?_
      repeat (first | (refine zae rfl rfl _ zaf ?_; (first | go_big_quiet_step (fail) | quiet_step (fail)); refine wpQuiet_nil ?_) | refine zah rfl ?_)
      refine zau rfl rfl rfl zb4 #[.agg (sn x3), .agg (cl c)] rfl ?_
      refine (HAs.out _ _ (S.out.l.keep (zak (Below.refl _ _) 1))).mono ?_
      rintro e u ⟨rfl, g⟩
      refine ⟨_, rfl, g, ?_⟩
      simp only [Act.put, List.setIfInBounds_toArray, List.set_cons_zero, List.set_cons_succ]
      have GB : Hid (Below w8.heap.size w8 u) := zac (zak (Below.refl _ _) 1) g
      clear g
      repeat (first | (refine zae rfl rfl _ zaf ?_; (first | go_big_quiet_step (fail) | quiet_step (fail)); refine wpQuiet_nil ?_) | refine zah rfl ?_)
      refine zau rfl rfl rfl zb4 #[.agg (sn x4), .agg (cl c)] rfl ?_
      refine (HAt.out _ _ (V.out.l.keep GB.out)).mono ?_
      rintro e u ⟨rfl, g⟩
      refine ⟨_, rfl, g, ?_⟩
      simp only [Act.put, List.setIfInBounds_toArray, List.set_cons_zero, List.set_cons_succ]
      replace GB : Hid (Below w8.heap.size w8 u) := zac GB.out g
      clear g
      repeat (first | (refine zae rfl rfl _ zaf ?_; (first | go_big_quiet_step (fail) | quiet_step (fail)); refine wpQuiet_nil ?_) | refine zah rfl ?_)
      refine zbd ?_
      clear L0 L1 L2
      replace A := Lib.hid (A.out.keep GB.out)
      replace MC := Lib.hid (zab GB.out MC.out)
      replace F := Lib.hid (F.out.keep GB.out)
      replace S := Lib.hid (S.out.keep GB.out)
      replace V := Lib.hid (V.out.keep GB.out)
      clear GB
      obtain ⟨w9, rfl⟩ : ∃ W : World, W = u := ⟨_, rfl⟩
      go_wp2_with fail
      go_ret
      exact ⟨rfl, A.out.g⟩
   ·
    by_cases h7 : c.kind = 7
    ·
     have k6 : decide (c.kind = 6) = false := decide_eq_false h6
     have k6b : (c.kind == 6) = false := by rw [beq_eq_false_iff_ne]; exact h6
     have k7 : decide (c.kind = 7) = true := decide_eq_true h7
     have k7b : (c.kind == 7) = true := by rw [h7]; rfl
     by_cases ha : XA < 0
     ·
      have ta : decide (XA < 0) = true := decide_eq_true ha
      clear h6 h7 ha
      have L0 := fun p : Wd w7.drew => za8 zT (by decide) p
      have L1 := fun p : Wd w7.drew => zay zt p
      have L2 := fun p : Wd w7.drew => zay yj p
      have L3 := fun p : Wd w7.drew => zay c1 p
      have L4 := fun p : Wd w7.drew => za8 c2 (by decide) p
      have L5 := fun p : Wd w7.drew => za8 c3 (by decide) p
      have L6 := fun p : Wd w7.drew => zay c4 p
      clear zT zt yj c1 c2 c3 c4
      refine zan [8, 10, 23, 27, 32, 34, 39] (by kernel_rfl) (by kernel_rfl) (by kernel_rfl) ?_
      repeat (first | (refine zae rfl rfl _ zaf ?_; (first | go_big_quiet_step (fail) | quiet_step (fail)); refine wpQuiet_nil ?_) | refine zah rfl ?_)
      refine zcd rfl rfl (.bool false) _ rfl (Below.refl _ _) ?_
      simp only [Act.put, List.setIfInBounds_toArray, List.set_cons_zero, List.set_cons_succ]
      repeat (first | (refine zae rfl rfl _ zaf ?_; (first | go_big_quiet_step (fail) | quiet_step (fail)); refine wpQuiet_nil ?_) | refine zah rfl ?_)
      refine zcd rfl rfl (.bool true) _ rfl (Below.refl _ _) ?_
      simp only [Act.put, List.setIfInBounds_toArray, List.set_cons_zero, List.set_cons_succ]
      repeat (first | (refine zae rfl rfl _ zaf ?_; (first | go_big_quiet_step (fail) | quiet_step (fail)); refine wpQuiet_nil ?_) | refine zah rfl ?_)
      refine zau rfl rfl rfl zbk #[.agg (tr ⟨x4.t.n⟩), .agg (rc c.a)] rfl ?_
      refine (HFa.out _ _ (zad (zak (Below.refl _ _) 1) V.out.l.t)).mono ?_
      rintro e u ⟨rfl, g⟩
      refine ⟨_, rfl, g, ?_⟩
      simp only [Act.put, List.setIfInBounds_toArray, List.set_cons_zero, List.set_cons_succ]
      have GB : Hid (Below w7.heap.size w7 u) := zac (zak (Below.refl _ _) 1) g
      clear g
      repeat (first | (refine zae rfl rfl _ zaf ?_; (first | go_big_quiet_step (fail) | quiet_step (fail)); refine wpQuiet_nil ?_) | refine zah rfl ?_)
      refine zcd rfl rfl (.bool true) _ rfl (Below.refl _ _) ?_
      simp only [Act.put, List.setIfInBounds_toArray, List.set_cons_zero, List.set_cons_succ]
      repeat (first | (refine zae rfl rfl _ zaf ?_; (first | go_big_quiet_step (fail) | quiet_step (fail)); refine wpQuiet_nil ?_) | refine zah rfl ?_)
      refine zbd ?_
      clear L0 L1 L2 L3 L4 L5 L6
      replace A := Lib.hid (A.out.keep GB.out)
      replace MC := Lib.hid (zab GB.out MC.out)
      replace F := Lib.hid (F.out.keep GB.out)
      replace S := Lib.hid (S.out.keep GB.out)
      replace V := Lib.hid (V.out.keep GB.out)
      clear GB
      obtain ⟨w8, rfl⟩ : ∃ W : World, W = u := ⟨_, rfl⟩
      go_wp2_with fail
      go_quiet (fail)
      go_wp2_with fail
      go_ret
      exact ⟨rfl, zak A.out.g _⟩
     ·
      by_cases hb : XB < 0
      ·
       have ta : decide (XA < 0) = false := decide_eq_false ha
       have tb : decide (XB < 0) = true := decide_eq_true hb
       clear h6 h7 ha hb
       have L0 := fun p : Wd w7.drew => za8 zT (by decide) p
       have L1 := fun p : Wd w7.drew => zay zt p
       have L2 := fun p : Wd w7.drew => zay yj p
       have L3 := fun p : Wd w7.drew => zay c1 p
       have L4 := fun p : Wd w7.drew => za8 c2 (by decide) p
       have L5 := fun p : Wd w7.drew => za8 c3 (by decide) p
       have L6 := fun p : Wd w7.drew => zay c4 p
       clear zT zt yj c1 c2 c3 c4
       refine zan [8, 10, 23, 27, 32, 34, 39] (by kernel_rfl) (by kernel_rfl) (by kernel_rfl) ?_
       repeat (first | (refine zae rfl rfl _ zaf ?_; (first | go_big_quiet_step (fail) | quiet_step (fail)); refine wpQuiet_nil ?_) | refine zah rfl ?_)
       refine zcd rfl rfl (.bool false) _ rfl (Below.refl _ _) ?_
       simp only [Act.put, List.setIfInBounds_toArray, List.set_cons_zero, List.set_cons_succ]
       repeat (first | (refine zae rfl rfl _ zaf ?_; (first | go_big_quiet_step (fail) | quiet_step (fail)); refine wpQuiet_nil ?_) | refine zah rfl ?_)
       refine zcd rfl rfl (.bool true) _ rfl (Below.refl _ _) ?_
       simp only [Act.put, List.setIfInBounds_toArray, List.set_cons_zero, List.set_cons_succ]
       repeat (first | (refine zae rfl rfl _ zaf ?_; (first | go_big_quiet_step (fail) | quiet_step (fail)); refine wpQuiet_nil ?_) | refine zah rfl ?_)
       refine zau rfl rfl rfl zbk #[.agg (tr ⟨x4.t.n⟩), .agg (rc c.a)] rfl ?_
       refine (HFa.out _ _ (zad (zak (Below.refl _ _) 1) V.out.l.t)).mono ?_
       rintro e u ⟨rfl, g⟩
       refine ⟨_, rfl, g, ?_⟩
       simp only [Act.put, List.setIfInBounds_toArray, List.set_cons_zero, List.set_cons_succ]
       have GB : Hid (Below w7.heap.size w7 u) := zac (zak (Below.refl _ _) 1) g
       clear g
       repeat (first | (refine zae rfl rfl _ zaf ?_; (first | go_big_quiet_step (fail) | quiet_step (fail)); refine wpQuiet_nil ?_) | refine zah rfl ?_)
       refine zcd rfl rfl (.bool false) _ rfl (Below.refl _ _) ?_
       simp only [Act.put, List.setIfInBounds_toArray, List.set_cons_zero, List.set_cons_succ]
       repeat (first | (refine zae rfl rfl _ zaf ?_; (first | go_big_quiet_step (fail) | quiet_step (fail)); refine wpQuiet_nil ?_) | refine zah rfl ?_)
       refine zau rfl rfl rfl zbk #[.agg (tr ⟨x4.t.n⟩), .agg (rc c.b)] rfl ?_
       refine (HFb.out _ _ (zad GB.out V.out.l.t)).mono ?_
       rintro e u ⟨rfl, g⟩
       refine ⟨_, rfl, g, ?_⟩
       simp only [Act.put, List.setIfInBounds_toArray, List.set_cons_zero, List.set_cons_succ]
       replace GB : Hid (Below w7.heap.size w7 u) := zac GB.out g
       clear g
       repeat (first | (refine zae rfl rfl _ zaf ?_; (first | go_big_quiet_step (fail) | quiet_step (fail)); refine wpQuiet_nil ?_) | refine zah rfl ?_)
       refine zbd ?_
       clear L0 L1 L2 L3 L4 L5 L6
       replace A := Lib.hid (A.out.keep GB.out)
       replace MC := Lib.hid (zab GB.out MC.out)
       replace F := Lib.hid (F.out.keep GB.out)
       replace S := Lib.hid (S.out.keep GB.out)
       replace V := Lib.hid (V.out.keep GB.out)
       clear GB
       obtain ⟨w8, rfl⟩ : ∃ W : World, W = u := ⟨_, rfl⟩
       go_wp2_with fail
       go_quiet (fail)
       go_wp2_with fail
       go_ret
       exact ⟨rfl, zak A.out.g _⟩
      ·
       have HC : Hid (¬ (c.kind = 6 ∧ (XA < 0 ∨ c.slot.toNat < N) ∨ c.kind = 7 ∧ (XA < 0 ∨ XB < 0))) := by show ¬ _; omega
       have ta : decide (XA < 0) = false := decide_eq_false ha
       have tb : decide (XB < 0) = false := decide_eq_false hb
       clear h6 h7 ha hb
       have L0 := fun p : Wd w7.drew => za8 zT (by decide) p
       have L1 := fun p : Wd w7.drew => zay zt p
       have L2 := fun p : Wd w7.drew => zay yj p
       have L3 := fun p : Wd w7.drew => zay c1 p
       have L4 := fun p : Wd w7.drew => za8 c2 (by decide) p
       have L5 := fun p : Wd w7.drew => za8 c3 (by decide) p
       have L6 := fun p : Wd w7.drew => zay c4 p
       clear zT zt yj c1 c2 c3 c4
       refine zan [8, 10, 23, 27, 32, 34, 39] (by kernel_rfl) (by kernel_rfl) (by kernel_rfl) ?_
       repeat (first | (refine zae rfl rfl _ zaf ?_; (first | go_big_quiet_step (fail) | quiet_step (fail)); refine wpQuiet_nil ?_) | refine zah rfl ?_)
       refine zcd rfl rfl (.bool false) _ rfl (Below.refl _ _) ?_
       simp only [Act.put, List.setIfInBounds_toArray, List.set_cons_zero, List.set_cons_succ]
       repeat (first | (refine zae rfl rfl _ zaf ?_; (first | go_big_quiet_step (fail) | quiet_step (fail)); refine wpQuiet_nil ?_) | refine zah rfl ?_)
       refine zcd rfl rfl (.bool true) _ rfl (Below.refl _ _) ?_
       simp only [Act.put, List.setIfInBounds_toArray, List.set_cons_zero, List.set_cons_succ]
       repeat (first | (refine zae rfl rfl _ zaf ?_; (first | go_big_quiet_step (fail) | quiet_step (fail)); refine wpQuiet_nil ?_) | refine zah rfl ?_)
       refine zau rfl rfl rfl zbk #[.agg (tr ⟨x4.t.n⟩), .agg (rc c.a)] rfl ?_
       refine (HFa.out _ _ (zad (zak (Below.refl _ _) 1) V.out.l.t)).mono ?_
       rintro e u ⟨rfl, g⟩
       refine ⟨_, rfl, g, ?_⟩
       simp only [Act.put, List.setIfInBounds_toArray, List.set_cons_zero, List.set_cons_succ]
       have GB : Hid (Below w7.heap.size w7 u) := zac (zak (Below.refl _ _) 1) g
       clear g
       repeat (first | (refine zae rfl rfl _ zaf ?_; (first | go_big_quiet_step (fail) | quiet_step (fail)); refine wpQuiet_nil ?_) | refine zah rfl ?_)
       refine zcd rfl rfl (.bool false) _ rfl (Below.refl _ _) ?_
       simp only [Act.put, List.setIfInBounds_toArray, List.set_cons_zero, List.set_cons_succ]
       repeat (first | (refine zae rfl rfl _ zaf ?_; (first | go_big_quiet_step (fail) | quiet_step (fail)); refine wpQuiet_nil ?_) | refine zah rfl ?_)
       refine zau rfl rfl rfl zbk #[.agg (tr ⟨x4.t.n⟩), .agg (rc c.b)] rfl ?_
       refine (HFb.out _ _ (zad GB.out V.out.l.t)).mono ?_
       rintro e u ⟨rfl, g⟩
       refine ⟨_, rfl, g, ?_⟩
       simp only [Act.put, List.setIfInBounds_toArray, List.set_cons_zero, List.set_cons_succ]
       replace GB : Hid (Below w7.heap.size w7 u) := zac GB.out g
       clear g
       repeat (first | (refine zae rfl rfl _ zaf ?_; (first | go_big_quiet_step (fail) | quiet_step (fail)); refine wpQuiet_nil ?_) | refine zah rfl ?_)
       refine zbd ?_
       clear L0 L1 L2 L3 L4 L5 L6
       replace A := Lib.hid (A.out.keep GB.out)
       replace MC := Lib.hid (zab GB.out MC.out)
       replace F := Lib.hid (F.out.keep GB.out)
       replace S := Lib.hid (S.out.keep GB.out)
       replace V := Lib.hid (V.out.keep GB.out)
       clear GB
       obtain ⟨w8, rfl⟩ : ∃ W : World, W = u := ⟨_, rfl⟩
       have hq := L8.out (HC.out)
       rw [hq] at HAs
       obtain ⟨R, hR⟩ : ∃ R, R = rsOf (askN t c.kind c.a c.b c.slot.toNat) := ⟨_, rfl⟩
       rw [← hR] at HAs HAt
       clear hR hq
       have z1 := S.out.z
       have z2 := V.out.z
       have zc := zag MC.out (zec _)
       go_upto_region 14 with fail
       have L0 := fun p : Wd w8.drew => za8 z1 (by decide) p
       have L1 := fun p : Wd w8.drew => za8 z2 (by decide) p
       have L2 := fun p : Wd w8.drew => za8 zc (by decide) p
       clear z1 z2 zc
       refine zan [4, 7] (by kernel_rfl) (by kernel_rfl) (by kernel_rfl) ?_
       repeat (first | (refine zae rfl rfl _ zaf ?_; (first | go_big_quiet_step (fail) | quiet_step (fail)); refine wpQuiet_nil ?_) | refine zah rfl ?_)
       refine zau rfl rfl rfl zb4 #[.agg (sn x3), .agg (cl c)] rfl ?_
       refine (HAs.out _ _ (S.out.l.keep (zak (Below.refl _ _) 1))).mono ?_
       rintro e u ⟨rfl, g⟩
       refine ⟨_, rfl, g, ?_⟩
       simp only [Act.put, List.setIfInBounds_toArray, List.set_cons_zero, List.set_cons_succ]
       have GB : Hid (Below w8.heap.size w8 u) := zac (zak (Below.refl _ _) 1) g
       clear g
       repeat (first | (refine zae rfl rfl _ zaf ?_; (first | go_big_quiet_step (fail) | quiet_step (fail)); refine wpQuiet_nil ?_) | refine zah rfl ?_)
       refine zau rfl rfl rfl zb4 #[.agg (sn x4), .agg (cl c)] rfl ?_
       refine (HAt.out _ _ (V.out.l.keep GB.out)).mono ?_
       rintro e u ⟨rfl, g⟩
       refine ⟨_, rfl, g, ?_⟩
       simp only [Act.put, List.setIfInBounds_toArray, List.set_cons_zero, List.set_cons_succ]
       replace GB : Hid (Below w8.heap.size w8 u) := zac GB.out g
       clear g
       repeat (first | (refine zae rfl rfl _ zaf ?_; (first | go_big_quiet_step (fail) | quiet_step (fail)); refine wpQuiet_nil ?_) | refine zah rfl ?_)
       refine zbd ?_
       clear L0 L1 L2
       replace A := Lib.hid (A.out.keep GB.out)
       replace MC := Lib.hid (zab GB.out MC.out)
       replace F := Lib.hid (F.out.keep GB.out)
       replace S := Lib.hid (S.out.keep GB.out)
       replace V := Lib.hid (V.out.keep GB.out)
       clear GB
       obtain ⟨w9, rfl⟩ : ∃ W : World, W = u := ⟨_, rfl⟩
       go_wp2_with fail
       go_ret
       exact ⟨rfl, A.out.g⟩
    ·
     have HC : Hid (¬ (c.kind = 6 ∧ (XA < 0 ∨ c.slot.toNat < N) ∨ c.kind = 7 ∧ (XA < 0 ∨ XB < 0))) := by show ¬ _; omega
     have k6 : decide (c.kind = 6) = false := decide_eq_false h6
     have k6b : (c.kind == 6) = false := by rw [beq_eq_false_iff_ne]; exact h6
     have k7 : decide (c.kind = 7) = false := decide_eq_false h7
     have k7b : (c.kind == 7) = false := by rw [beq_eq_false_iff_ne]; exact h7
     clear h6 h7
     have L0 := fun p : Wd w7.drew => za8 zT (by decide) p
     have L1 := fun p : Wd w7.drew => zay zt p
     have L2 := fun p : Wd w7.drew => zay yj p
     have L3 := fun p : Wd w7.drew => zay c1 p
     have L4 := fun p : Wd w7.drew => za8 c2 (by decide) p
     have L5 := fun p : Wd w7.drew => za8 c3 (by decide) p
     have L6 := fun p : Wd w7.drew => zay c4 p
     clear zT zt yj c1 c2 c3 c4
     refine zan [8, 10, 23, 27, 32, 34, 39] (by kernel_rfl) (by kernel_rfl) (by kernel_rfl) ?_
     repeat (first | (refine zae rfl rfl _ zaf ?_; (first | go_big_quiet_step (fail) | quiet_step (fail)); refine wpQuiet_nil ?_) | refine zah rfl ?_)
     refine zcd rfl rfl (.bool false) _ rfl (Below.refl _ _) ?_
     simp only [Act.put, List.setIfInBounds_toArray, List.set_cons_zero, List.set_cons_succ]
     repeat (first | (refine zae rfl rfl _ zaf ?_; (first | go_big_quiet_step (fail) | quiet_step (fail)); refine wpQuiet_nil ?_) | refine zah rfl ?_)
     refine zcd rfl rfl (.bool false) _ rfl (Below.refl _ _) ?_
     simp only [Act.put, List.setIfInBounds_toArray, List.set_cons_zero, List.set_cons_succ]
     repeat (first | (refine zae rfl rfl _ zaf ?_; (first | go_big_quiet_step (fail) | quiet_step (fail)); refine wpQuiet_nil ?_) | refine zah rfl ?_)
     refine zbd ?_
     clear L0 L1 L2 L3 L4 L5 L6
     replace A := Lib.hid (A.out.keep (show Below w7.heap.size w7 w7.drew from zak (Below.refl _ _) 1))
     replace MC := Lib.hid (zab (show Below w7.heap.size w7 w7.drew from zak (Below.refl _ _) 1) MC.out)
     replace F := Lib.hid (F.out.keep (show Below w7.heap.size w7 w7.drew from zak (Below.refl _ _) 1))
     replace S := Lib.hid (S.out.keep (show Below w7.heap.size w7 w7.drew from zak (Below.refl _ _) 1))
     replace V := Lib.hid (V.out.keep (show Below w7.heap.size w7 w7.drew from zak (Below.refl _ _) 1))
     generalize w7.drew = w8 at *
     have hq := L8.out (HC.out)
     rw [hq] at HAs
     obtain ⟨R, hR⟩ : ∃ R, R = rsOf (askN t c.kind c.a c.b c.slot.toNat) := ⟨_, rfl⟩
     rw [← hR] at HAs HAt
     clear hR hq
     have z1 := S.out.z
     have z2 := V.out.z
     have zc := zag MC.out (zec _)
     go_upto_region 14 with fail
     have L0 := fun p : Wd w8.drew => za8 z1 (by decide) p
     have L1 := fun p : Wd w8.drew => za8 z2 (by decide) p
     have L2 := fun p : Wd w8.drew => za8 zc (by decide) p
     clear z1 z2 zc
     refine zan [4, 7] (by kernel_rfl) (by kernel_rfl) (by kernel_rfl) ?_
     repeat (first | (refine zae rfl rfl _ zaf ?_; (first | go_big_quiet_step (fail) | quiet_step (fail)); refine wpQuiet_nil ?_) | refine zah rfl ?_)
     refine zau rfl rfl rfl zb4 #[.agg (sn x3), .agg (cl c)] rfl ?_
     refine (HAs.out _ _ (S.out.l.keep (zak (Below.refl _ _) 1))).mono ?_
     rintro e u ⟨rfl, g⟩
     refine ⟨_, rfl, g, ?_⟩
     simp only [Act.put, List.setIfInBounds_toArray, List.set_cons_zero, List.set_cons_succ]
     have GB : Hid (Below w8.heap.size w8 u) := zac (zak (Below.refl _ _) 1) g
     clear g
     repeat (first | (refine zae rfl rfl _ zaf ?_; (first | go_big_quiet_step (fail) | quiet_step (fail)); refine wpQuiet_nil ?_) | refine zah rfl ?_)
     refine zau rfl rfl rfl zb4 #[.agg (sn x4), .agg (cl c)] rfl ?_
     refine (HAt.out _ _ (V.out.l.keep GB.out)).mono ?_
     rintro e u ⟨rfl, g⟩
     refine ⟨_, rfl, g, ?_⟩
     simp only [Act.put, List.setIfInBounds_toArray, List.set_cons_zero, List.set_cons_succ]
     replace GB : Hid (Below w8.heap.size w8 u) := zac GB.out g
     clear g
     repeat (first | (refine zae rfl rfl _ zaf ?_; (first | go_big_quiet_step (fail) | quiet_step (fail)); refine wpQuiet_nil ?_) | refine zah rfl ?_)
     refine zbd ?_
     clear L0 L1 L2
     replace A := Lib.hid (A.out.keep GB.out)
     replace MC := Lib.hid (zab GB.out MC.out)
     replace F := Lib.hid (F.out.keep GB.out)
     replace S := Lib.hid (S.out.keep GB.out)
     replace V := Lib.hid (V.out.keep GB.out)
     clear GB
     obtain ⟨w9, rfl⟩ : ∃ W : World, W = u := ⟨_, rfl⟩
     go_wp2_with fail
     go_ret
     exact ⟨rfl, A.out.g⟩
theorem snapPruneL (H : zn1) (HX : zdn) (HE : z8q) (x : En) (g : Eg) (c : Cl) (w : World) (h : LaidG w x g) :
  Calls Tryz.prog 5 #[.agg (en x), .agg (cl c)] w fun e w' => e = .returned (.bool true) ∧ Below w.heap.size w w' := by
 exact z12 H HX HE x g c w h
theorem engP18 : z8q := ⟨fun x g w h sg => zg0 x g w h sg, fun x g w h sg => zvx x g w h sg⟩
end Go.Proofs.YtkalofboioffiaaGreat
