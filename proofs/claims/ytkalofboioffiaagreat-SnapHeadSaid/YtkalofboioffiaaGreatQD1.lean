import Derived.Test.YtkalofboioffiaaGreatQC1
import Derived.Test.YtkalofboioffiaaGreatQ37
namespace Go.Proofs.YtkalofboioffiaaGreat
open Go.RowKit
set_option maxRecDepth 200000
set_option maxHeartbeats 64000000
theorem z7x (H : zn1) (HX : zdn) (HE : z8p) (HT : z8s) (x : En) (g : Eg) (ver : Int) (w : World) (h : LaidG w x g) :
  Calls Tryz.prog 4 #[.agg (en x), .int .i64 ver] w fun e w' => e = .returned (.bool true) ∧ Below w.heap.size w w' := by
 obtain ⟨W0, hW0⟩ : ∃ W0, W0 = (w.alloc (.cells (en x) 38)) := ⟨_, rfl⟩
 have hB : Below w.heap.size w W0 := by rw [hW0]; exact below1
 have q0 : W0.heap[w.heap.size]? = some (.cells (en x) 38 (0, 0)) := by rw [hW0]; exact heap_alloc_last w _
 have A : Hid (Gv w W0 w.heap.size x g) := ⟨q0, h.keep hB, hB⟩
 have HW := Lib.hid hW0
 have HAw := Lib.hid (fun W => zfp H HX W)
 obtain ⟨f, hf⟩ : ∃ f, f = fewG g := ⟨_, rfl⟩
 have HFw := Lib.hid (fun W (hh : LaidG W x g) => yls x g W hh)
 rw [← hf] at HFw
 have HFt : Hid (f = true → zcv g ∧ g.j.length ≤ 24) := fun e => zla (hf.symm.trans e)
 have HH := Lib.hid H
 have HY := Lib.hid HX
 have HG := Lib.hid HE
 have HU := Lib.hid HT
 clear hW0 hB q0 h hf H HX HE HT
 go_enter Tryz.func4, Tryz.ntmps4
 go_upto_region 1 with fail
 rw [← HW.out]
 go_wp2_with fail
 refine (HAw.out _).mono ?_
 rintro e w1 ⟨rfl, g⟩
 replace A := Lib.hid (A.out.keep g)
 clear g
 have z := A.out.z
 go_wp2_with fail
 refine (HFw.out _ A.out.l).mono ?_
 rintro e w2 ⟨rfl, g⟩
 replace A := Lib.hid (A.out.keep g)
 clear g z
 cases f
 ·
  go_wp2_with fail
  go_ret
  exact ⟨rfl, A.out.g⟩
 ·
  obtain ⟨sm, sj⟩ := HFt.out rfl
  obtain ⟨m, hm⟩ : ∃ m, m = mayG g := ⟨_, rfl⟩
  have HMy := Lib.hid (fun W hh => HG.out.may x g W hh sm)
  rw [← hm] at HMy
  have HMt : Hid (m = true → MayS' g) := fun e => zhx.1 (hm.symm.trans e)
  have SM := Lib.hid sm
  have SJ := Lib.hid sj
  clear hm sm sj HFt HFw HAw HW
  have z := A.out.z
  go_wp2_with fail
  refine (HMy.out _ A.out.l).mono ?_
  rintro e w3 ⟨rfl, g⟩
  replace A := Lib.hid (A.out.keep g)
  clear g z
  cases m
  ·
   go_wp2_with fail
   go_ret
   exact ⟨rfl, A.out.g⟩
  ·
   have MS := Lib.hid (HMt.out rfl)
   clear HMt HMy
   have hl := zew MS.out ver
   have HO := Lib.hid (fun W hh => HH.out.of x g ver W hh SM.out)
   obtain ⟨s, hs⟩ : ∃ s, s = ofE g ver := ⟨_, rfl⟩
   rw [← hs] at hl HO
   clear hs
   obtain ⟨l1, l2, l3, l4, m, f1, f2, f3⟩ := hl
   rw [← l4] at f1 f2 f3
   have HFh := Lib.hid (fun t W hh => HY.out.find t s.t s.head W hh)
   rw [f1] at HFh
   obtain ⟨Y, hY⟩ : ∃ Y, Y = zal s.t s.fin.root := ⟨_, rfl⟩
   have HFf := Lib.hid (fun t W hh => HY.out.find t s.t s.fin.root W hh)
   rw [← hY] at HFf
   have HAb := Lib.hid (fun t W hh => HU.out.above t s.t Y (m : Int) W hh)
   have ha := (zop.1 l1).1
   rw [f1, ← hY] at ha
   rw [ha] at HAb
   have HMs := Lib.hid (fun y W hh => HH.out.may y s W hh)
   rw [l1] at HMs
   have HSm := Lib.hid (fun t W h1 h2 => HU.out.same t x.t.n s.t g.t W h1 h2 (by rw [l4]; exact SM.out.t))
   rw [decide_eq_true l4] at HSm
   have HKi := Lib.hid (fun t W hh => HU.out.kids t s.t (m : Int) W hh)
   have hk : (zkf s.t (m : Int)).length = (zjn s.t m).length := by unfold zkf; rw [List.length_map, zp8 (zqk l1) f2]
   obtain ⟨nk, hnk⟩ : ∃ n, n = (zkf s.t (m : Int)).length := ⟨_, rfl⟩
   have HNk := Lib.hid hnk.symm
   have HVer := Lib.hid l2
   have HFin := Lib.hid l3
   have HLw : Hid ((nk = 0 ∧ s.just.epoch.toNat ≤ (nd s.t m).just.toNat) ∨ s.head = s.just.root) := by
    rcases f3 with ⟨e1, e2⟩ | e1
    ·
     exact .inl ⟨by rw [hnk, hk, e1]; rfl, e2⟩
    ·
     exact .inr e1
   have HM2 := Lib.hid f2
   clear l1 l2 l3 l4 f1 f2 f3 hY ha hk hnk MS HH HY HG HU
   have z := A.out.z
   go_wp2_with fail
   refine (HO.out _ A.out.l).mono ?_
   rintro e w4 ⟨x2, rfl, h2, g⟩
   have S := Lib.hid (ztw (zac A.out.g g) h2)
   replace A := Lib.hid (A.out.keep (zac g (below1 (o := .cells (sn x2) 40))))
   clear g h2 z HO
   have zT := S.out.zT
   have zh := S.out.zh
   go_wp2_with fail
   refine (HFh.out _ _ S.out.l.t).mono ?_
   rintro e w5 ⟨rfl, g⟩
   replace A := Lib.hid (A.out.keep g)
   replace S := Lib.hid (S.out.keep g)
   clear g zT zh HFh
   have zT := S.out.zT
   have zr := S.out.zr
   go_wp2_with fail
   refine (HFf.out _ _ S.out.l.t).mono ?_
   rintro e w6 ⟨rfl, g⟩
   replace A := Lib.hid (A.out.keep g)
   replace S := Lib.hid (S.out.keep g)
   clear g zT zr HFf
   have z := S.out.z
   go_wp2_with fail
   refine (HMs.out _ _ S.out.l).mono ?_
   rintro e w7 ⟨rfl, g⟩
   replace A := Lib.hid (A.out.keep g)
   replace S := Lib.hid (S.out.keep g)
   clear g z HMs
   have zv := S.out.zv
   rw [HVer.out] at zv
   have zf := S.out.zf
   rw [HFin.out] at zf
   have yf := A.out.zf
   have zT := S.out.zT
   have yT := A.out.zT
   go_wp2_with fail
   refine (HSm.out _ _ S.out.l.t A.out.l.t).mono ?_
   rintro e w8 ⟨rfl, g⟩
   replace A := Lib.hid (A.out.keep g)
   replace S := Lib.hid (S.out.keep g)
   clear g zv zf yf zT yT HSm
   have zT := S.out.zT
   go_wp2_with fail
   refine (HAb.out _ _ S.out.l.t).mono ?_
   rintro e w9 ⟨rfl, g⟩
   replace A := Lib.hid (A.out.keep g)
   replace S := Lib.hid (S.out.keep g)
   clear g zT HAb
   obtain ⟨⟨pt, nt, ct⟩, hst⟩ : ∃ s : SlV, s = x2.t.n := ⟨_, rfl⟩
   have HSt := Lib.hid hst
   have hnt := zek S.out.l.t
   rw [← hst] at hnt
   have HNt : Hid (s.t.length = nt) := hnt
   clear hst hnt
   have zt := S.out.zt
   rw [← HSt.out, za7] at zt
   obtain ⟨bq, oq, hpq, _, qq⟩ := zda (by have := S.out.l.t; rw [← HSt.out, za7] at this; exact this) (by rw [HNt.out]; have := HM2.out; rw [HNt.out] at this; omega)
   subst hpq
   have hm2 := HM2.out
   rw [HNt.out] at hm2
   have i0 : (0 : Int) ≤ (m : Int) := by omega
   have i1 : (m : Int) < (nt : Int) := by omega
   have t1 : decide ((m : Int) < 0) = false := decide_eq_false (by omega)
   have t2 : decide ((nt : Int) ≤ (m : Int)) = false := decide_eq_false (by omega)
   have t2' : decide (nt ≤ m) = false := decide_eq_false (by omega)
   have yj := yg8 qq (i := m) HM2.out
   have ze := S.out.ze
   have zh := S.out.zh
   have zJ := S.out.zJ
   have zT := S.out.zT
   obtain ⟨E, hE⟩ : ∃ E, E = s.just.epoch.toNat := ⟨_, rfl⟩
   obtain ⟨J, hJ⟩ : ∃ J, J = (nd s.t m).just.toNat := ⟨_, rfl⟩
   rw [← hE] at ze
   rw [← hJ] at yj
   rw [← hE, ← hJ] at HLw
   clear hE hJ qq hm2
   go_upto_region 12 with fail
   by_cases h1 : nk = 0
   ·
    have n1 : ((nk : Int) == 0) = true := by rw [h1]; rfl
    have n2 : (nk == 0) = true := by rw [h1]; rfl
    have n3 : decide (nk = 0) = true := decide_eq_true h1
    by_cases h2 : E ≤ J
    ·
     have n4 : decide ((E : Int) ≤ (J : Int)) = true := decide_eq_true (by omega)
     have n4' : decide (E ≤ J) = true := decide_eq_true (by omega)
     clear h1 h2
     have L0 := fun p : Wd w9.drew => za8 zT (by decide) p
     have L1 := fun p : Wd w9.drew => zay zt p
     have L2 := fun p : Wd w9.drew => zay yj p
     have L3 := fun p : Wd w9.drew => zay ze p
     have L4 := fun p : Wd w9.drew => za8 zh (by decide) p
     have L5 := fun p : Wd w9.drew => za8 zJ (by decide) p
     clear zT zt yj ze zh zJ
     refine zan [3] (by kernel_rfl) (by kernel_rfl) (by kernel_rfl) ?_
     repeat (first | (refine zae rfl rfl _ zaf ?_; (first | go_big_quiet_step (fail) | quiet_step (fail)); refine wpQuiet_nil ?_) | refine zah rfl ?_)
     refine zau rfl rfl rfl zeg #[.agg (tr ⟨x2.t.n⟩), .int .i64 (m : Int)] rfl ?_
     refine (HKi.out _ _ (zad (zak (Below.refl _ _) 1) S.out.l.t)).mono ?_
     rintro e u ⟨v, rfl, ho, g⟩
     refine ⟨_, rfl, g, ?_⟩
     simp only [Act.put, List.setIfInBounds_toArray, List.set_cons_zero, List.set_cons_succ]
     have GB : Hid (Below w9.heap.size w9 u) := zac (zak (Below.refl _ _) 1) g
     obtain ⟨pk, ck, rfl⟩ := zdg ho HNk.out
     clear ho
     clear g
     repeat (first | (refine zae rfl rfl _ zaf ?_; (first | go_big_quiet_step (fail) | quiet_step (fail)); refine wpQuiet_nil ?_) | refine zah rfl ?_)
     refine zbd ?_
     clear L0 L1 L2 L3 L4 L5
     replace A := Lib.hid (A.out.keep GB.out)
     replace S := Lib.hid (S.out.keep GB.out)
     clear GB
     obtain ⟨w10, rfl⟩ : ∃ W : World, W = u := ⟨_, rfl⟩
     go_wp2_with fail
     go_ret
     exact ⟨rfl, S.out.g⟩
    ·
     have n4 : decide ((E : Int) ≤ (J : Int)) = false := decide_eq_false (by omega)
     have n4' : decide (E ≤ J) = false := decide_eq_false (by omega)
     have hh := HLw.out.resolve_left (by omega)
     rw [← hh] at zJ
     have te := zk7 s.head
     clear hh
     clear h1 h2
     have L0 := fun p : Wd w9.drew => za8 zT (by decide) p
     have L1 := fun p : Wd w9.drew => zay zt p
     have L2 := fun p : Wd w9.drew => zay yj p
     have L3 := fun p : Wd w9.drew => zay ze p
     have L4 := fun p : Wd w9.drew => za8 zh (by decide) p
     have L5 := fun p : Wd w9.drew => za8 zJ (by decide) p
     clear zT zt yj ze zh zJ
     refine zan [3] (by kernel_rfl) (by kernel_rfl) (by kernel_rfl) ?_
     repeat (first | (refine zae rfl rfl _ zaf ?_; (first | go_big_quiet_step (fail) | quiet_step (fail)); refine wpQuiet_nil ?_) | refine zah rfl ?_)
     refine zau rfl rfl rfl zeg #[.agg (tr ⟨x2.t.n⟩), .int .i64 (m : Int)] rfl ?_
     refine (HKi.out _ _ (zad (zak (Below.refl _ _) 1) S.out.l.t)).mono ?_
     rintro e u ⟨v, rfl, ho, g⟩
     refine ⟨_, rfl, g, ?_⟩
     simp only [Act.put, List.setIfInBounds_toArray, List.set_cons_zero, List.set_cons_succ]
     have GB : Hid (Below w9.heap.size w9 u) := zac (zak (Below.refl _ _) 1) g
     obtain ⟨pk, ck, rfl⟩ := zdg ho HNk.out
     clear ho
     clear g
     repeat (first | (refine zae rfl rfl _ zaf ?_; (first | go_big_quiet_step (fail) | quiet_step (fail)); refine wpQuiet_nil ?_) | refine zah rfl ?_)
     refine zbd ?_
     clear L0 L1 L2 L3 L4 L5
     replace A := Lib.hid (A.out.keep GB.out)
     replace S := Lib.hid (S.out.keep GB.out)
     clear GB
     obtain ⟨w10, rfl⟩ : ∃ W : World, W = u := ⟨_, rfl⟩
     go_wp2_with fail
     go_ret
     exact ⟨rfl, S.out.g⟩
   ·
    have n1 : ((nk : Int) == 0) = false := by rw [beq_eq_false_iff_ne]; omega
    have n2 : (nk == 0) = false := by rw [beq_eq_false_iff_ne]; exact h1
    have n3 : decide (nk = 0) = false := decide_eq_false h1
    have hh := HLw.out.resolve_left (by omega)
    rw [← hh] at zJ
    have te := zk7 s.head
    clear hh
    clear h1
    have L0 := fun p : Wd w9.drew => za8 zT (by decide) p
    have L1 := fun p : Wd w9.drew => zay zt p
    have L2 := fun p : Wd w9.drew => zay yj p
    have L3 := fun p : Wd w9.drew => zay ze p
    have L4 := fun p : Wd w9.drew => za8 zh (by decide) p
    have L5 := fun p : Wd w9.drew => za8 zJ (by decide) p
    clear zT zt yj ze zh zJ
    refine zan [3] (by kernel_rfl) (by kernel_rfl) (by kernel_rfl) ?_
    repeat (first | (refine zae rfl rfl _ zaf ?_; (first | go_big_quiet_step (fail) | quiet_step (fail)); refine wpQuiet_nil ?_) | refine zah rfl ?_)
    refine zau rfl rfl rfl zeg #[.agg (tr ⟨x2.t.n⟩), .int .i64 (m : Int)] rfl ?_
    refine (HKi.out _ _ (zad (zak (Below.refl _ _) 1) S.out.l.t)).mono ?_
    rintro e u ⟨v, rfl, ho, g⟩
    refine ⟨_, rfl, g, ?_⟩
    simp only [Act.put, List.setIfInBounds_toArray, List.set_cons_zero, List.set_cons_succ]
    have GB : Hid (Below w9.heap.size w9 u) := zac (zak (Below.refl _ _) 1) g
    obtain ⟨pk, ck, rfl⟩ := zdg ho HNk.out
    clear ho
    clear g
    repeat (first | (refine zae rfl rfl _ zaf ?_; (first | go_big_quiet_step (fail) | quiet_step (fail)); refine wpQuiet_nil ?_) | refine zah rfl ?_)
    refine zbd ?_
    clear L0 L1 L2 L3 L4 L5
    replace A := Lib.hid (A.out.keep GB.out)
    replace S := Lib.hid (S.out.keep GB.out)
    clear GB
    obtain ⟨w10, rfl⟩ : ∃ W : World, W = u := ⟨_, rfl⟩
    go_wp2_with fail
    go_ret
    exact ⟨rfl, S.out.g⟩
theorem snapHeadL (H : zn1) (HX : zdn) (HE : z8p) (HT : z8s) (x : En) (g : Eg) (ver : Int) (w : World) (h : LaidG w x g) :
  Calls Tryz.prog 4 #[.agg (en x), .int .i64 ver] w fun e w' => e = .returned (.bool true) ∧ Below w.heap.size w w' := by
 exact z7x H HX HE HT x g ver w h
theorem engM18 : z8p := ⟨fun x g w h sg => zg0 x g w h sg⟩
theorem tree18 : z8s where
 same := fun s t l k w h h' hn => z4s s t l k w h h' hn
 above := zf2
 kids := zwi
end Go.Proofs.YtkalofboioffiaaGreat
