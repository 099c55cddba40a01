import Derived.Test.YtmihlihlpdkdcaaGreatK12
import Derived.Test.YtmihlihlpdkdcaaGreatK13
import Derived.Deep.Cut
import Derived.Deep.CutRange
import Derived.Deep.RegionLaw
import Derived.Test.YtmihlihlpdkdcaaGreatK20
import Derived.Test.YtmihlihlpdkdcaaGreatK24
namespace Go.Proofs.YtmihlihlpdkdcaaGreat
open Go.RowKit
set_option maxRecDepth 200000
set_option maxHeartbeats 64000000
theorem zyj (H : EngC) (HX : zt8) (x : En) (g : Eg) (a b : Int) (q : UInt64) (w : World) (h : LaidG w x g) :
  Calls Tryz.prog 6 #[.agg (en x), .int .i64 a, .int .i64 b, .int .u64 (q.toNat : Int)] w fun e w' => e = .returned (.bool true) ∧ Below w.heap.size w w' := by
 obtain ⟨W0, hW0⟩ : ∃ W0, W0 = (w.alloc (.cells (en x) 39)) := ⟨_, rfl⟩
 have hB : Below w.heap.size w W0 := by rw [hW0]; exact below1
 have q0 : W0.heap[w.heap.size]? = some (.cells (en x) 39 (0, 0)) := by rw [hW0]; exact heap_alloc_last w _
 have A : Hid (Gv w W0 w.heap.size x g) := ⟨q0, h.keep hB, hB⟩
 have HW := Lib.hid hW0
 have HAw := Lib.hid (fun W => zfb H W)
 obtain ⟨f, hf⟩ : ∃ f, f = fewG g := ⟨_, rfl⟩
 have HFw := Lib.hid (fun W (hh : LaidG W x g) => ybc x g W hh)
 rw [← hf] at HFw
 have HFt : Hid (f = true → zbz g ∧ g.j.length ≤ 24) := fun e => zev (hf.symm.trans e)
 have HH := Lib.hid H
 clear hW0 hB q0 h hf H
 go_enter Tryz.func6, Tryz.ntmps6
 go_upto_region 1 with fail
 rw [← HW.out]
 go_wp2_with fail
 refine (HAw.out _).mono ?_
 rintro e w1 ⟨rfl, g⟩
 replace A := Lib.hid (A.out.keep g)
 clear g
 have z := A.out.z
 go_wp2_with fail
 refine (HFw.out _ A.out.l).mono ?_
 rintro e w2 ⟨rfl, g⟩
 replace A := Lib.hid (A.out.keep g)
 clear g z
 cases f
 ·
  go_wp2_with fail
  go_ret
  exact ⟨rfl, A.out.g⟩
 ·
  obtain ⟨sm, sj⟩ := HFt.out rfl
  obtain ⟨m, hm⟩ : ∃ m, m = mayG g := ⟨_, rfl⟩
  have HMy := Lib.hid (fun W hh => HH.out.may x g W hh sm)
  rw [← hm] at HMy
  have HMt : Hid (m = true → MayS' g) := fun e => zdu.1 (hm.symm.trans e)
  have SM := Lib.hid sm
  have SJ := Lib.hid sj
  clear hm sm sj HFt HFw HAw
  have z := A.out.z
  go_wp2_with fail
  refine (HMy.out _ A.out.l).mono ?_
  rintro e w3 ⟨rfl, g⟩
  replace A := Lib.hid (A.out.keep g)
  clear g z
  cases m
  ·
   go_wp2_with fail
   go_ret
   exact ⟨rfl, A.out.g⟩
  ·
   have MS := Lib.hid (HMt.out rfl)
   clear HMt HMy
   obtain ⟨⟨pt, nt, ct⟩, hst⟩ : ∃ s : SlV, s = x.t.n := ⟨_, rfl⟩
   have HSt := Lib.hid hst
   have hnt := zck A.out.l.t
   rw [← hst] at hnt
   have HNt : Hid (g.t.length = nt) := hnt
   clear hst hnt
   have zt := A.out.zt
   rw [← HSt.out, zat] at zt
   by_cases ta : a < 0
   ·
    have tai : decide (a < 0) = true := decide_eq_true (ta)
    clear ta
    go_wp2_with fail
    go_ret
    exact ⟨rfl, A.out.g⟩
   ·
    have tai : decide (a < 0) = false := decide_eq_false (ta)
    by_cases tb : b < 0
    ·
     have tbi : decide (b < 0) = true := decide_eq_true (tb)
     clear tb
     go_wp2_with fail
     go_ret
     exact ⟨rfl, A.out.g⟩
    ·
     have tbi : decide (b < 0) = false := decide_eq_false (tb)
     by_cases tc : (nt : Int) ≤ a
     ·
      have tci : decide ((nt : Int) ≤ a) = true := decide_eq_true (tc)
      clear tc
      go_wp2_with fail
      go_ret
      exact ⟨rfl, A.out.g⟩
     ·
      have tci : decide ((nt : Int) ≤ a) = false := decide_eq_false (tc)
      by_cases td : (nt : Int) ≤ b
      ·
       have tdi : decide ((nt : Int) ≤ b) = true := decide_eq_true (td)
       clear td
       go_wp2_with fail
       go_ret
       exact ⟨rfl, A.out.g⟩
      ·
       have tdi : decide ((nt : Int) ≤ b) = false := decide_eq_false (td)
       obtain ⟨ia, rfl⟩ : ∃ i : Nat, a = i := ⟨a.toNat, by omega⟩
       obtain ⟨ib, rfl⟩ : ∃ i : Nat, b = i := ⟨b.toNat, by omega⟩
       have la : ia < nt := by omega
       have lb : ib < nt := by omega
       have tcn : decide (nt ≤ ia) = false := decide_eq_false (by omega)
       have tdn : decide (nt ≤ ib) = false := decide_eq_false (by omega)
       have tan : decide ((ia : Int) < 0) = false := decide_eq_false (by omega)
       have tbn : decide ((ib : Int) < 0) = false := decide_eq_false (by omega)
       obtain ⟨i, hi1, hi2, hlaw⟩ := z05 MS.out (s := q.toNat) (by rw [HNt.out]; exact la) (by rw [HNt.out]; exact lb)
       rw [HNt.out] at hi1
       have HLaw := Lib.hid hlaw
       have HI2 := Lib.hid hi2
       have hbe := yrl MS.out
       have hag := ynp MS.out
       obtain ⟨p1, p2⟩ := z9z MS.out
       have hfin : (prG g).fin = g.fin := by rw [p2]
       have MG := Lib.hid (pr_G MS.out)
       have SG := Lib.hid (zn6 MS.out SJ.out .prune)
       have hdo : doG g .prune = prG g := rfl
       rw [hdo] at SG
       have p3 := (z9z MG.out).1
       have HWl : Hid (g.w.length = g.t.length) := by show _ = _; rw [MS.out.w, zj8 MS.out.fit]
       have HWg : Hid ((prG g).w.length = (prG g).t.length) := by show _ = _; rw [MG.out.w, zj8 MG.out.fit]
       have HBl := Lib.hid (fun W hh => HH.out.prune x g W hh SM.out)
       rw [p1] at HBl
       obtain ⟨GG, hG⟩ : ∃ G, G = prG g := ⟨_, rfl⟩
       rw [← hG] at HBl MG SG p3 HLaw hbe hag hfin HWg
       have HB2 := Lib.hid (fun y W hh => HH.out.prune y GG W hh SG.out)
       rw [p3, hag] at HB2
       have HSf := Lib.hid (fun y y2 W hh hh2 => HH.out.same y y2 GG GG W hh hh2 SG.out SG.out)
       rw [decide_eq_true rfl] at HSf
       have HFe := Lib.hid (fun W hh => HX.find x.t.n g.t g.fin.root W hh)
       rw [hi2] at HFe
       have HAb := Lib.hid (fun j W hh => HX.above x.t.n g.t (i : Int) (j : Int) W hh)
       have HBs := Lib.hid (fun u W h1 h2 => HX.best x.t.n u g.t g.j g.fin W h1 h2 SM.out.t SM.out.j)
       have HAe := Lib.hid (fun W hh => HX.at_ x.t.n g.t (ia : Int) q W hh)
       have HAbE := Lib.hid (fun W hh => HX.above x.t.n g.t (ia : Int) (ib : Int) W hh)
       have HFin := Lib.hid hfin
       have HBe := Lib.hid hbe
       have LA := Lib.hid la
       have LB := Lib.hid lb
       have LI := Lib.hid hi1
       have MT := Lib.hid MS.out.t
       have MTg := Lib.hid MG.out.t
       clear ta tb tc td hi1 hi2 hlaw hbe hag p1 p2 hfin hdo p3 la lb hG HH MS MG
       have z := A.out.z
       go_wp2_with fail
       refine (HBl.out _ A.out.l).mono ?_
       rintro e w4 ⟨x2, rfl, h2, g2⟩
       clear z zt tai tbi tci tdi tcn tdn tan tbn HBl
       have F := Lib.hid (zi6 (zad A.out.g g2) h2)
       replace A := Lib.hid (A.out.keep (zad g2 (below1 (o := .cells (en x2) 39))))
       clear g2 h2
       have zf := F.out.z
       go_wp2_with fail
       refine (HB2.out _ _ F.out.l).mono ?_
       rintro e w5 ⟨x3, rfl, h3, g3⟩
       clear zf HB2
       have F3 := Lib.hid (zi6 (zad A.out.g g3) h3)
       replace A := Lib.hid (A.out.keep (zad g3 (below1 (o := .cells (en x3) 39))))
       replace F := Lib.hid (F.out.keep (zad g3 (below1 (o := .cells (en x3) 39))))
       clear g3 h3
       have zT := A.out.zT
       have zr := A.out.zr
       go_wp2_with fail
       refine (HFe.out _ A.out.l.t).mono ?_
       rintro e w6 ⟨rfl, g⟩
       replace A := Lib.hid (A.out.keep g)
       replace F := Lib.hid (F.out.keep g)
       replace F3 := Lib.hid (F3.out.keep g)
       clear g zT zr HFe
       have HFx := Lib.hid (fun r W hh => HX.find x2.t.n GG.t r W hh)
       have zt := A.out.zt
       rw [← HSt.out, zat] at zt
       have zT := F.out.zT
       obtain ⟨bq, oq, hpq, _, qq⟩ := zf4 (by have := A.out.l.t; rw [← HSt.out, zat] at this; exact this) (by rw [HNt.out]; have := LA.out; omega)
       rw [hpq] at zt
       have yq := zqu qq (i := ia) (by rw [HNt.out]; exact LA.out)
       have i0 : (0 : Int) ≤ (ia : Int) := by omega
       have i1 : (ia : Int) < (nt : Int) := by have := LA.out; omega
       clear qq hpq
       go_upto_region 8 with fail
       have L0 := fun p : Wd w6.drew => za3 zt p
       have L1 := fun p : Wd w6.drew => zb8 zT (by decide) p
       have L2 := fun p : Wd w6.drew => zb8 yq (by decide) p
       clear zt zT yq
       refine za4 [9] (by kernel_rfl) (by kernel_rfl) (by kernel_rfl) ?_
       repeat (first | (refine zae rfl rfl _ zag ?_; (first | go_big_quiet_step (fail) | quiet_step (fail)); refine wpQuiet_nil ?_) | refine zam rfl ?_)
       refine zau rfl rfl rfl zb5 #[.agg (tr ⟨x2.t.n⟩), .agg (rc (nd g.t ia).root)] rfl ?_
       refine (HFx.out _ _ (zac (zap (Below.refl _ _) 1) F.out.l.t)).mono ?_
       rintro e u ⟨rfl, g⟩
       refine ⟨_, rfl, g, ?_⟩
       simp only [Act.put, List.setIfInBounds_toArray, List.set_cons_zero, List.set_cons_succ]
       have GB : Hid (Below w6.heap.size w6 u) := zad (zap (Below.refl _ _) 1) g
       clear g
       repeat (first | (refine zae rfl rfl _ zag ?_; (first | go_big_quiet_step (fail) | quiet_step (fail)); refine wpQuiet_nil ?_) | refine zam rfl ?_)
       refine zbx ?_
       clear L0 L1 L2
       replace A := Lib.hid (A.out.keep GB.out)
       replace F := Lib.hid (F.out.keep GB.out)
       replace F3 := Lib.hid (F3.out.keep GB.out)
       clear GB
       obtain ⟨w7, rfl⟩ : ∃ W : World, W = u := ⟨_, rfl⟩
       clear i0 i1
       go_upto_region 9 with fail
       have zt := A.out.zt
       rw [← HSt.out, zat] at zt
       have zT := F.out.zT
       obtain ⟨bq, oq, hpq, _, qq⟩ := zf4 (by have := A.out.l.t; rw [← HSt.out, zat] at this; exact this) (by rw [HNt.out]; have := LB.out; omega)
       rw [hpq] at zt
       have yq := zqu qq (i := ib) (by rw [HNt.out]; exact LB.out)
       have i0 : (0 : Int) ≤ (ib : Int) := by omega
       have i1 : (ib : Int) < (nt : Int) := by have := LB.out; omega
       clear qq hpq
       go_upto_region 9 with fail
       have L0 := fun p : Wd w7.drew => za3 zt p
       have L1 := fun p : Wd w7.drew => zb8 zT (by decide) p
       have L2 := fun p : Wd w7.drew => zb8 yq (by decide) p
       clear zt zT yq
       refine za4 [9] (by kernel_rfl) (by kernel_rfl) (by kernel_rfl) ?_
       repeat (first | (refine zae rfl rfl _ zag ?_; (first | go_big_quiet_step (fail) | quiet_step (fail)); refine wpQuiet_nil ?_) | refine zam rfl ?_)
       refine zau rfl rfl rfl zb5 #[.agg (tr ⟨x2.t.n⟩), .agg (rc (nd g.t ib).root)] rfl ?_
       refine (HFx.out _ _ (zac (zap (Below.refl _ _) 1) F.out.l.t)).mono ?_
       rintro e u ⟨rfl, g⟩
       refine ⟨_, rfl, g, ?_⟩
       simp only [Act.put, List.setIfInBounds_toArray, List.set_cons_zero, List.set_cons_succ]
       have GB : Hid (Below w7.heap.size w7 u) := zad (zap (Below.refl _ _) 1) g
       clear g
       repeat (first | (refine zae rfl rfl _ zag ?_; (first | go_big_quiet_step (fail) | quiet_step (fail)); refine wpQuiet_nil ?_) | refine zam rfl ?_)
       refine zbx ?_
       clear L0 L1 L2
       replace A := Lib.hid (A.out.keep GB.out)
       replace F := Lib.hid (F.out.keep GB.out)
       replace F3 := Lib.hid (F3.out.keep GB.out)
       clear GB
       obtain ⟨w8, rfl⟩ : ∃ W : World, W = u := ⟨_, rfl⟩
       clear i0 i1
       have HBx := Lib.hid (fun u W h1 h2 => HX.best x2.t.n u GG.t GG.j GG.fin W h1 h2 SG.out.t SG.out.j)
       rw [HBe.out, HFin.out] at HBx
       obtain ⟨X, hX⟩ : ∃ X, X = zay GG.t (nd g.t ia).root := ⟨_, rfl⟩
       obtain ⟨Y, hY⟩ : ∃ Y, Y = zay GG.t (nd g.t ib).root := ⟨_, rfl⟩
       rw [← hX, ← hY] at HLaw ⊢
       clear hX hY
       have HAv := Lib.hid (HAb.out ia)
       obtain ⟨av, hav⟩ : ∃ v, v = zcj g.t (i : Int) (ia : Int) := ⟨_, rfl⟩
       rw [← hav] at HAv
       have HTx : Hid (decide (0 ≤ X) = av) := by
        show _ = _
        rw [hav, zeg MT.out (by rw [HNt.out]; exact LI.out) (by rw [HNt.out]; exact LA.out)]
        rcases HLaw.out with ⟨e1, e2⟩ | ⟨x, e1, _, e2, _⟩
        ·
         rw [e1, e2]; rfl
        ·
         rw [e1, e2]; exact decide_eq_true (by omega)
       have tx := HTx.out
       clear hav HAb
       have zf2 := F.out.z
       have zf3 := F3.out.z
       have yf2 := F.out.zf
       rw [HFin.out] at yf2
       have yf1 := A.out.zf
       have zT1 := A.out.zT
       have zT2 := F.out.zT
       have zj1 := A.out.zj
       have zj2 := F.out.zj
       obtain ⟨sj1, hsj1⟩ : ∃ v, v = sv x.j := ⟨_, rfl⟩
       obtain ⟨sj2, hsj2⟩ : ∃ v, v = sv x2.j := ⟨_, rfl⟩
       rw [← hsj1] at zj1
       rw [← hsj2] at zj2
       have KJ1 : Hid (SlE Ecc w8 sj1 g.j) := by rw [hsj1]; exact A.out.l.j
       have KJ2 : Hid (SlE Ecc w8 sj2 GG.j) := by rw [hsj2]; exact F.out.l.j
       clear hsj1 hsj2 tx
       go_upto_region 10 with fail
       cases av
       ·
        have tx := HTx.out
        have L0 := fun p : Wd w8.drew => zb8 zf2 (by decide) p
        have L1 := fun p : Wd w8.drew => zb8 zf3 (by decide) p
        have L2 := fun p : Wd w8.drew => zb8 yf1 (by decide) p
        have L3 := fun p : Wd w8.drew => zb8 yf2 (by decide) p
        have L4 := fun p : Wd w8.drew => zb8 zT1 (by decide) p
        have L5 := fun p : Wd w8.drew => zb8 zT2 (by decide) p
        have L6 := fun p : Wd w8.drew => za3 zj1 p
        have L7 := fun p : Wd w8.drew => za3 zj2 p
        clear zf2 zf3 yf1 yf2 zT1 zT2 zj1 zj2
        refine za4 [5, 8, 15, 22, 25, 32, 39] (by kernel_rfl) (by kernel_rfl) (by kernel_rfl) ?_
        repeat (first | (refine zae rfl rfl _ zag ?_; (first | go_big_quiet_step (fail) | quiet_step (fail)); refine wpQuiet_nil ?_) | refine zam rfl ?_)
        refine zau rfl rfl rfl zln #[.agg (en x3), .agg (en x2)] rfl ?_
        refine (HSf.out _ _ _ (F3.out.l.keep (zap (Below.refl _ _) 1)) (F.out.l.keep (zap (Below.refl _ _) 1))).mono ?_
        rintro e u ⟨rfl, g⟩
        refine ⟨_, rfl, g, ?_⟩
        simp only [Act.put, List.setIfInBounds_toArray, List.set_cons_zero, List.set_cons_succ]
        have GB : Hid (Below w8.heap.size w8 u) := zad (zap (Below.refl _ _) 1) g
        clear g
        repeat (first | (refine zae rfl rfl _ zag ?_; (first | go_big_quiet_step (fail) | quiet_step (fail)); refine wpQuiet_nil ?_) | refine zam rfl ?_)
        refine zgg rfl rfl (.bool false) _ rfl (Below.refl _ _) ?_
        simp only [Act.put, List.setIfInBounds_toArray, List.set_cons_zero, List.set_cons_succ]
        repeat (first | (refine zae rfl rfl _ zag ?_; (first | go_big_quiet_step (fail) | quiet_step (fail)); refine wpQuiet_nil ?_) | refine zam rfl ?_)
        refine zgg rfl rfl (.bool false) _ rfl (Below.refl _ _) ?_
        simp only [Act.put, List.setIfInBounds_toArray, List.set_cons_zero, List.set_cons_succ]
        repeat (first | (refine zae rfl rfl _ zag ?_; (first | go_big_quiet_step (fail) | quiet_step (fail)); refine wpQuiet_nil ?_) | refine zam rfl ?_)
        refine zau rfl rfl rfl zb0 #[.agg (tr ⟨x.t.n⟩), .int .i64 (i : Int), .int .i64 (ia : Int)] rfl ?_
        refine (HAv.out _ (zac GB.out A.out.l.t)).mono ?_
        rintro e u ⟨rfl, g⟩
        refine ⟨_, rfl, g, ?_⟩
        simp only [Act.put, List.setIfInBounds_toArray, List.set_cons_zero, List.set_cons_succ]
        replace GB : Hid (Below w8.heap.size w8 u) := zad GB.out g
        clear g
        repeat (first | (refine zae rfl rfl _ zag ?_; (first | go_big_quiet_step (fail) | quiet_step (fail)); refine wpQuiet_nil ?_) | refine zam rfl ?_)
        refine zgg rfl rfl (.bool false) _ rfl (Below.refl _ _) ?_
        simp only [Act.put, List.setIfInBounds_toArray, List.set_cons_zero, List.set_cons_succ]
        repeat (first | (refine zae rfl rfl _ zag ?_; (first | go_big_quiet_step (fail) | quiet_step (fail)); refine wpQuiet_nil ?_) | refine zam rfl ?_)
        refine zau rfl rfl rfl zdo #[.agg (tr ⟨x2.t.n⟩), sj2, .agg (cc g.fin)] rfl ?_
        refine (HBx.out _ _ (zac GB.out F.out.l.t) (zac GB.out KJ2.out)).mono ?_
        rintro e u ⟨rfl, g⟩
        refine ⟨_, rfl, g, ?_⟩
        simp only [Act.put, List.setIfInBounds_toArray, List.set_cons_zero, List.set_cons_succ]
        replace GB : Hid (Below w8.heap.size w8 u) := zad GB.out g
        clear g
        repeat (first | (refine zae rfl rfl _ zag ?_; (first | go_big_quiet_step (fail) | quiet_step (fail)); refine wpQuiet_nil ?_) | refine zam rfl ?_)
        refine zau rfl rfl rfl zdo #[.agg (tr ⟨x.t.n⟩), sj1, .agg (cc g.fin)] rfl ?_
        refine (HBs.out _ _ (zac GB.out A.out.l.t) (zac GB.out KJ1.out)).mono ?_
        rintro e u ⟨rfl, g⟩
        refine ⟨_, rfl, g, ?_⟩
        simp only [Act.put, List.setIfInBounds_toArray, List.set_cons_zero, List.set_cons_succ]
        replace GB : Hid (Below w8.heap.size w8 u) := zad GB.out g
        clear g
        repeat (first | (refine zae rfl rfl _ zag ?_; (first | go_big_quiet_step (fail) | quiet_step (fail)); refine wpQuiet_nil ?_) | refine zam rfl ?_)
        refine zbx ?_
        clear L0 L1 L2 L3 L4 L5 L6 L7
        replace A := Lib.hid (A.out.keep GB.out)
        replace F := Lib.hid (F.out.keep GB.out)
        replace F3 := Lib.hid (F3.out.keep GB.out)
        clear GB
        obtain ⟨w9, rfl⟩ : ∃ W : World, W = u := ⟨_, rfl⟩
        clear KJ1 KJ2
        have hx : X < 0 := by have := of_decide_eq_false tx; omega
        have tx2 : decide (X < 0) = true := decide_eq_true hx
        clear hx tx
        go_wp2_with fail
        go_ret
        exact ⟨rfl, A.out.g⟩
       ·
        have tx := HTx.out
        have L0 := fun p : Wd w8.drew => zb8 zf2 (by decide) p
        have L1 := fun p : Wd w8.drew => zb8 zf3 (by decide) p
        have L2 := fun p : Wd w8.drew => zb8 yf1 (by decide) p
        have L3 := fun p : Wd w8.drew => zb8 yf2 (by decide) p
        have L4 := fun p : Wd w8.drew => zb8 zT1 (by decide) p
        have L5 := fun p : Wd w8.drew => zb8 zT2 (by decide) p
        have L6 := fun p : Wd w8.drew => za3 zj1 p
        have L7 := fun p : Wd w8.drew => za3 zj2 p
        clear zf2 zf3 yf1 yf2 zT1 zT2 zj1 zj2
        refine za4 [5, 8, 15, 22, 25, 32, 39] (by kernel_rfl) (by kernel_rfl) (by kernel_rfl) ?_
        repeat (first | (refine zae rfl rfl _ zag ?_; (first | go_big_quiet_step (fail) | quiet_step (fail)); refine wpQuiet_nil ?_) | refine zam rfl ?_)
        refine zau rfl rfl rfl zln #[.agg (en x3), .agg (en x2)] rfl ?_
        refine (HSf.out _ _ _ (F3.out.l.keep (zap (Below.refl _ _) 1)) (F.out.l.keep (zap (Below.refl _ _) 1))).mono ?_
        rintro e u ⟨rfl, g⟩
        refine ⟨_, rfl, g, ?_⟩
        simp only [Act.put, List.setIfInBounds_toArray, List.set_cons_zero, List.set_cons_succ]
        have GB : Hid (Below w8.heap.size w8 u) := zad (zap (Below.refl _ _) 1) g
        clear g
        repeat (first | (refine zae rfl rfl _ zag ?_; (first | go_big_quiet_step (fail) | quiet_step (fail)); refine wpQuiet_nil ?_) | refine zam rfl ?_)
        refine zgg rfl rfl (.bool false) _ rfl (Below.refl _ _) ?_
        simp only [Act.put, List.setIfInBounds_toArray, List.set_cons_zero, List.set_cons_succ]
        repeat (first | (refine zae rfl rfl _ zag ?_; (first | go_big_quiet_step (fail) | quiet_step (fail)); refine wpQuiet_nil ?_) | refine zam rfl ?_)
        refine zgg rfl rfl (.bool false) _ rfl (Below.refl _ _) ?_
        simp only [Act.put, List.setIfInBounds_toArray, List.set_cons_zero, List.set_cons_succ]
        repeat (first | (refine zae rfl rfl _ zag ?_; (first | go_big_quiet_step (fail) | quiet_step (fail)); refine wpQuiet_nil ?_) | refine zam rfl ?_)
        refine zau rfl rfl rfl zb0 #[.agg (tr ⟨x.t.n⟩), .int .i64 (i : Int), .int .i64 (ia : Int)] rfl ?_
        refine (HAv.out _ (zac GB.out A.out.l.t)).mono ?_
        rintro e u ⟨rfl, g⟩
        refine ⟨_, rfl, g, ?_⟩
        simp only [Act.put, List.setIfInBounds_toArray, List.set_cons_zero, List.set_cons_succ]
        replace GB : Hid (Below w8.heap.size w8 u) := zad GB.out g
        clear g
        repeat (first | (refine zae rfl rfl _ zag ?_; (first | go_big_quiet_step (fail) | quiet_step (fail)); refine wpQuiet_nil ?_) | refine zam rfl ?_)
        refine zgg rfl rfl (.bool false) _ rfl (Below.refl _ _) ?_
        simp only [Act.put, List.setIfInBounds_toArray, List.set_cons_zero, List.set_cons_succ]
        repeat (first | (refine zae rfl rfl _ zag ?_; (first | go_big_quiet_step (fail) | quiet_step (fail)); refine wpQuiet_nil ?_) | refine zam rfl ?_)
        refine zau rfl rfl rfl zdo #[.agg (tr ⟨x2.t.n⟩), sj2, .agg (cc g.fin)] rfl ?_
        refine (HBx.out _ _ (zac GB.out F.out.l.t) (zac GB.out KJ2.out)).mono ?_
        rintro e u ⟨rfl, g⟩
        refine ⟨_, rfl, g, ?_⟩
        simp only [Act.put, List.setIfInBounds_toArray, List.set_cons_zero, List.set_cons_succ]
        replace GB : Hid (Below w8.heap.size w8 u) := zad GB.out g
        clear g
        repeat (first | (refine zae rfl rfl _ zag ?_; (first | go_big_quiet_step (fail) | quiet_step (fail)); refine wpQuiet_nil ?_) | refine zam rfl ?_)
        refine zau rfl rfl rfl zdo #[.agg (tr ⟨x.t.n⟩), sj1, .agg (cc g.fin)] rfl ?_
        refine (HBs.out _ _ (zac GB.out A.out.l.t) (zac GB.out KJ1.out)).mono ?_
        rintro e u ⟨rfl, g⟩
        refine ⟨_, rfl, g, ?_⟩
        simp only [Act.put, List.setIfInBounds_toArray, List.set_cons_zero, List.set_cons_succ]
        replace GB : Hid (Below w8.heap.size w8 u) := zad GB.out g
        clear g
        repeat (first | (refine zae rfl rfl _ zag ?_; (first | go_big_quiet_step (fail) | quiet_step (fail)); refine wpQuiet_nil ?_) | refine zam rfl ?_)
        refine zbx ?_
        clear L0 L1 L2 L3 L4 L5 L6 L7
        replace A := Lib.hid (A.out.keep GB.out)
        replace F := Lib.hid (F.out.keep GB.out)
        replace F3 := Lib.hid (F3.out.keep GB.out)
        clear GB
        obtain ⟨w9, rfl⟩ : ∃ W : World, W = u := ⟨_, rfl⟩
        clear KJ1 KJ2
        have hx0 : 0 ≤ X := of_decide_eq_true tx
        obtain ⟨ix, rfl⟩ : ∃ i : Nat, X = i := ⟨X.toNat, by omega⟩
        have tx2 : decide ((ix : Int) < 0) = false := decide_eq_false (by omega)
        clear hx0 tx
        obtain ⟨k1, k2, k3, k4, k5⟩ : (ix < GG.t.length ∧ fn GG.w ix = fn g.w ia) ∧ (Y = -1 ∨ ∃ y : Nat, Y = y ∧ y < GG.t.length ∧ za5 GG.t ix y = za5 g.t ia ib) ∧ ((q.toNat < sl g.t i ∧ atT GG.t ix q.toNat = -1) ∨ (sl g.t i ≤ q.toNat ∧ ∃ p s : Nat, atT GG.t ix q.toNat = p ∧ atT g.t ia q.toNat = s ∧ p < GG.t.length ∧ s < g.t.length ∧ (nd GG.t p).root = (nd g.t s).root)) ∧ True ∧ True := by
         rcases HLaw.out with ⟨e1, _⟩ | ⟨x, e1, e2, _, e3, e4, e5⟩
         ·
          omega
         ·
          obtain rfl : ix = x := by omega
          exact ⟨⟨e2, e3⟩, e4, e5, trivial, trivial⟩
        clear k4 k5 HLaw HTx
        by_cases hy : Y < 0
        ·
         have ty : decide (Y < 0) = true := decide_eq_true hy
         clear hy k1 k2 k3
         go_wp2_with fail
         go_ret
         exact ⟨rfl, A.out.g⟩
        ·
         obtain ⟨iy, rfl, k4, k5⟩ := k2.resolve_left (by omega)
         have ty : decide ((iy : Int) < 0) = false := decide_eq_false (by omega)
         clear hy k2
         obtain ⟨⟨pu, nu, cu⟩, hsu⟩ : ∃ s : SlV, s = x2.t.n := ⟨_, rfl⟩
         have HSu := Lib.hid hsu
         have hnu := zck F.out.l.t
         rw [← hsu] at hnu
         have HNu : Hid (GG.t.length = nu) := hnu
         clear hsu hnu
         obtain ⟨⟨pw, nw, cw⟩, hsw⟩ : ∃ s : SlV, s = x2.w := ⟨_, rfl⟩
         have HSw := Lib.hid hsw
         have hnw := zck F.out.l.w
         rw [← hsw] at hnw
         have HNw : Hid (GG.w.length = nw) := hnw
         clear hsw hnw
         obtain ⟨⟨pv, nv, cv⟩, hsv⟩ : ∃ s : SlV, s = x.w := ⟨_, rfl⟩
         have HSv := Lib.hid hsv
         have hnv := zck A.out.l.w
         rw [← hsv] at hnv
         have HNv : Hid (g.w.length = nv) := hnv
         clear hsv hnv
         have hw1 := HWg.out.symm
         rw [HNw.out, HNu.out] at hw1
         have hw2 := HWl.out.symm
         rw [HNv.out, HNt.out] at hw2
         subst hw1 hw2
         rw [HNu.out] at k1 k4 k3
         rw [HNt.out] at k3
         obtain ⟨k1, k6⟩ := k1
         obtain ⟨bw, ow, hpw, _, qw⟩ := zcz (by have := F.out.l.w; rw [← HSw.out, zat] at this; exact this) (by rw [HNw.out]; omega)
         subst hpw
         have yw := zca qw (i := ix) (by rw [HNw.out]; exact k1)
         rw [k6] at yw
         obtain ⟨bv, ov, hpv, _, qv⟩ := zcz (by have := A.out.l.w; rw [← HSv.out, zat] at this; exact this) (by rw [HNv.out]; have := LA.out; omega)
         subst hpv
         have yv := zca qv (i := ia) (by rw [HNv.out]; exact LA.out)
         clear qw qv k6
         have K1 := Lib.hid k1
         have K4 := Lib.hid k4
         have K3 := Lib.hid k3
         have HAx := Lib.hid (fun W hh => HX.above x2.t.n GG.t (ix : Int) (iy : Int) W hh)
         rw [zeg MTg.out (by rw [HNu.out]; exact k1) (by rw [HNu.out]; exact k4), k5] at HAx
         rw [zeg MT.out (by rw [HNt.out]; exact LA.out) (by rw [HNt.out]; exact LB.out)] at HAbE
         clear k1 k3 k4 k5
         go_upto_region 14 with fail
         have zw := F.out.zw
         rw [← HSw.out, zat] at zw
         have zv := A.out.zw
         rw [← HSv.out, zat] at zv
         have zT1 := A.out.zT
         have zT2 := F.out.zT
         have t1 : decide ((nu : Int) ≤ (ix : Int)) = false := decide_eq_false (by have := K1.out; omega)
         have t1' : decide (nu ≤ ix) = false := decide_eq_false (by have := K1.out; omega)
         have t2 : decide ((nt : Int) ≤ (ia : Int)) = false := decide_eq_false (by have := LA.out; omega)
         have t2' : decide (nt ≤ ia) = false := decide_eq_false (by have := LA.out; omega)
         have i0 : (0 : Int) ≤ (ix : Int) := by omega
         have i1 : (ix : Int) < (nu : Int) := by have := K1.out; omega
         have i2 : (0 : Int) ≤ (ia : Int) := by omega
         have i3 : (ia : Int) < (nt : Int) := by have := LA.out; omega
         have L0 := fun p : Wd w9.drew => za3 zw p
         have L1 := fun p : Wd w9.drew => za3 zv p
         have L2 := fun p : Wd w9.drew => za3 yw p
         have L3 := fun p : Wd w9.drew => za3 yv p
         have L4 := fun p : Wd w9.drew => zb8 zT1 (by decide) p
         have L5 := fun p : Wd w9.drew => zb8 zT2 (by decide) p
         clear zw zv yw yv zT1 zT2
         refine za4 [30, 35] (by kernel_rfl) (by kernel_rfl) (by kernel_rfl) ?_
         repeat (first | (refine zae rfl rfl _ zag ?_; (first | go_big_quiet_step (fail) | quiet_step (fail)); refine wpQuiet_nil ?_) | refine zam rfl ?_)
         refine zau rfl rfl rfl zb0 #[.agg (tr ⟨x2.t.n⟩), .int .i64 (ix : Int), .int .i64 (iy : Int)] rfl ?_
         refine (HAx.out _ (zac (zap (Below.refl _ _) 1) F.out.l.t)).mono ?_
         rintro e u ⟨rfl, g⟩
         refine ⟨_, rfl, g, ?_⟩
         simp only [Act.put, List.setIfInBounds_toArray, List.set_cons_zero, List.set_cons_succ]
         have GB : Hid (Below w9.heap.size w9 u) := zad (zap (Below.refl _ _) 1) g
         clear g
         repeat (first | (refine zae rfl rfl _ zag ?_; (first | go_big_quiet_step (fail) | quiet_step (fail)); refine wpQuiet_nil ?_) | refine zam rfl ?_)
         refine zau rfl rfl rfl zb0 #[.agg (tr ⟨x.t.n⟩), .int .i64 (ia : Int), .int .i64 (ib : Int)] rfl ?_
         refine (HAbE.out _ (zac GB.out A.out.l.t)).mono ?_
         rintro e u ⟨rfl, g⟩
         refine ⟨_, rfl, g, ?_⟩
         simp only [Act.put, List.setIfInBounds_toArray, List.set_cons_zero, List.set_cons_succ]
         replace GB : Hid (Below w9.heap.size w9 u) := zad GB.out g
         clear g
         repeat (first | (refine zae rfl rfl _ zag ?_; (first | go_big_quiet_step (fail) | quiet_step (fail)); refine wpQuiet_nil ?_) | refine zam rfl ?_)
         refine zbx ?_
         clear L0 L1 L2 L3 L4 L5
         replace A := Lib.hid (A.out.keep GB.out)
         replace F := Lib.hid (F.out.keep GB.out)
         replace F3 := Lib.hid (F3.out.keep GB.out)
         clear GB
         obtain ⟨w10, rfl⟩ : ∃ W : World, W = u := ⟨_, rfl⟩
         clear t1 t1' t2 t2' i0 i1 i2 i3
         have HAx2 := Lib.hid (fun W hh => HX.at_ x2.t.n GG.t (ix : Int) q W hh)
         rw [z4k MTg.out (by rw [HNu.out]; exact K1.out)] at HAx2
         rw [z4k MT.out (by rw [HNt.out]; exact LA.out)] at HAe
         have zT := F.out.zT
         go_wp2_with fail
         refine (HAx2.out _ F.out.l.t).mono ?_
         rintro e w11 ⟨rfl, g⟩
         replace A := Lib.hid (A.out.keep g)
         replace F := Lib.hid (F.out.keep g)
         replace F3 := Lib.hid (F3.out.keep g)
         clear g zT HAx2
         have zT := A.out.zT
         go_wp2_with fail
         refine (HAe.out _ A.out.l.t).mono ?_
         rintro e w12 ⟨rfl, g⟩
         replace A := Lib.hid (A.out.keep g)
         replace F := Lib.hid (F.out.keep g)
         replace F3 := Lib.hid (F3.out.keep g)
         clear g zT HAe
         have zt := A.out.zt
         rw [← HSt.out, zat] at zt
         obtain ⟨bq, oq, hpq, _, qq⟩ := zf4 (by have := A.out.l.t; rw [← HSt.out, zat] at this; exact this) (by rw [HNt.out]; have := LA.out; omega)
         subst hpq
         have yq := zk3 qq (i := i) (by rw [HNt.out]; exact LI.out)
         have i0 : (0 : Int) ≤ (i : Int) := by omega
         have i1 : (i : Int) < (nt : Int) := by have := LI.out; omega
         have k3 := K3.out
         unfold sl at k3
         rcases k3 with ⟨k1, k2⟩ | ⟨k1, p, s, k2, k3, k4, k5, k6⟩
         ·
          rw [k2]
          have tq : decide ((q.toNat : Int) < ((nd g.t i).slot.toNat : Int)) = true := decide_eq_true (by omega)
          have tq' : decide (q.toNat < (nd g.t i).slot.toNat) = true := decide_eq_true (by omega)
          clear k1 k2 qq
          go_wp2_with fail
          go_ret
          exact ⟨rfl, A.out.g⟩
         ·
          rw [k2, k3]
          have tq : decide ((q.toNat : Int) < ((nd g.t i).slot.toNat : Int)) = false := decide_eq_false (by omega)
          have tq' : decide (q.toNat < (nd g.t i).slot.toNat) = false := decide_eq_false (by omega)
          have yr := zqu qq (i := s) (by rw [HNt.out]; exact k5)
          obtain ⟨bu, ou, hpu, _, qu⟩ := zf4 (by have := F.out.l.t; rw [← HSu.out, zat] at this; exact this) (by rw [HNu.out]; omega)
          subst hpu
          have yp := zqu qu (i := p) (by rw [HNu.out]; exact k4)
          rw [k6] at yp
          have zu := F.out.zt
          rw [← HSu.out, zat] at zu
          have t1 : decide ((p : Int) < (nu : Int)) = true := decide_eq_true (by omega)
          have t1' : decide (p < nu) = true := decide_eq_true (by omega)
          have t2 : decide ((s : Int) < (nt : Int)) = true := decide_eq_true (by omega)
          have t2' : decide (s < nt) = true := decide_eq_true (by omega)
          have j0 : (0 : Int) ≤ (p : Int) := by omega
          have j1 : (p : Int) < (nu : Int) := by omega
          have j2 : (0 : Int) ≤ (s : Int) := by omega
          have j3 : (s : Int) < (nt : Int) := by omega
          have te := z68 (nd g.t s).root
          clear k1 k2 k3 k4 k5 k6 qq qu
          go_wp2_with fail
          go_quiet (fail)
          go_wp2_with fail
          go_ret
          exact ⟨rfl, zap A.out.g _⟩
theorem enginePruneL (H : EngC) (HX : zt8) (x : En) (g : Eg) (a b : Int) (q : UInt64) (w : World) (h : LaidG w x g) :
  Calls Tryz.prog 6 #[.agg (en x), .int .i64 a, .int .i64 b, .int .u64 (q.toNat : Int)] w fun e w' => e = .returned (.bool true) ∧ Below w.heap.size w w' := by
 exact zyj H HX x g a b q w h
section
open Go.Shelf
attribute [local go_sem] Oper.semAt_some
def ymm {l : List Nd} {k : Nat} (pre : List (Ln l k)) : Nat := (pre.map Subtype.val).getLastD 0
theorem zu1 {l : List Nd} {k : Nat} (pre : List (Ln l k)) (x : Ln l k) : ymm (pre ++ [x]) = x.1 := by unfold ymm; simp
theorem yfz (s : SlV) (l : List Nd) (i : Int) (q : UInt64) (w : World) (h : SlE Ene w (sv s) l) (hk : isT l i = false) :
  Calls Tryz.prog 23 #[.agg (tr ⟨s⟩), .int .i64 i, .int .u64 (q.toNat : Int)] w fun e w' => e = .returned (.int .i64 (-1)) ∧ Below w.heap.size w w' := by
 have HP := Lib.hid (fun W (g : Below w.heap.size w W) => zgy s l i W (zac g h))
 rw [hk] at HP
 obtain ⟨W0, hW0⟩ : ∃ W0, W0 = ((w.alloc (.cells (tr ⟨s⟩) 28)).alloc (.cells #[.int .u64 (q.toNat : Int)] 30)).alloc (.cells #[.int .i64 0] 3) := ⟨_, rfl⟩
 obtain ⟨hB, h0, h1, h2, hz⟩ := zfw w _ _ _ _ _ _ W0 hW0
 have HB := Lib.hid hB
 have H2 := Lib.hid h2
 have HW := Lib.hid hW0
 clear hW0 h hk hB h0 h1 h2 hz
 go_enter Tryz.func23, Tryz.ntmps23
 go_wp2_with fail
 rw [← HW.out]
 refine (HP.out W0 HB.out).mono ?_
 rintro e w1 ⟨rfl, g1⟩
 have G1 := Lib.hid (zad HB.out g1)
 have hc : w1.cell? ⟨w.heap.size + 1 + 1, 0, none⟩ = some (.int .i64 0) ∧ w1.frozen? ⟨w.heap.size + 1 + 1, 0, none⟩ = false := zao (zab g1 H2.out)
 obtain ⟨z0, z1⟩ := hc
 clear g1
 go_wp2_with fail
 have hs := World.cell?_setCell_same' w1 ⟨w.heap.size + 1 + 1, 0, none⟩ (.int .i64 (-1)) (by rw [z0]; rfl)
 exact bodyPost_ret (v := .int .i64 (-1)) (by simp [results, Tryz.results23, go_sem, hs]) rfl ⟨rfl, G1.out.setCell (p := ⟨w.heap.size + 1 + 1, 0, none⟩) (by simp; omega) _⟩
theorem ybe (s : SlV) (l : List Nd) (k : Nat) (q : UInt64) (w : World) (h : SlE Ene w (sv s) l) (hm : MayT l) (hk : k < l.length) :
  Calls Tryz.prog 23 #[.agg (tr ⟨s⟩), .int .i64 (k : Int), .int .u64 (q.toNat : Int)] w fun e w' => e = .returned (.int .i64 (atT l k q.toNat)) ∧ Below w.heap.size w w' := by
 have HP := Lib.hid (fun W (g : Below w.heap.size w W) => zgy s l k W (zac g h))
 rw [zkd hm hk] at HP
 have HL := Lib.hid (zdm h)
 obtain ⟨p, n, cp⟩ := s
 dsimp only at HL
 obtain ⟨b1, o1, rfl, q1, x1⟩ := zf4 h hm.pos
 obtain ⟨W0, hW0⟩ : ∃ W0, W0 = ((w.alloc (.cells (tr ⟨⟨some ⟨b1, o1, none⟩, n, cp⟩⟩) 28)).alloc (.cells #[.int .u64 (q.toNat : Int)] 30)).alloc (.cells #[.int .i64 0] 3) := ⟨_, rfl⟩
 obtain ⟨hB, h0, h1, h2, hz⟩ := zfw w _ _ _ _ _ _ W0 hW0
 have HB := Lib.hid hB
 have H0 := Lib.hid h0
 have H1 := Lib.hid h1
 have H2 := Lib.hid h2
 have HZ := Lib.hid hz
 have HW := Lib.hid hW0
 have HX := Lib.hid x1
 have HQ := Lib.hid q1
 have HM := Lib.hid hm
 have HK := Lib.hid hk
 obtain ⟨r, hr⟩ : ∃ r, r = atT l k q.toNat := ⟨_, rfl⟩
 rw [← hr]
 have HR := Lib.hid hr
 clear hW0 h hk hB h0 h1 h2 hz hm x1 q1 hr
 refine callsIn_wide.1 (callsIn_of_wp_marks (n := 3) Tryz.func23 rfl trivial (wpIn_wide.2 ?_))
 simp only [Tryz.ntmps23, List.size_toArray, List.length_cons, List.length_nil, Nat.reduceAdd, Nat.reduceSub, Array.replicate_succ, Array.replicate_zero, List.push_toArray, List.append_toArray, List.nil_append, List.cons_append]
 go_wp2_with fail
 rw [← HW.out]
 refine (HP.out W0 HB.out).mono ?_
 rintro e w1 ⟨rfl, g1⟩
 have G1 := Lib.hid (zad HB.out g1)
 have G01 := Lib.hid g1
 have z1 := zaf (zab g1 H0.out) (zbf _)
 clear g1
 go_wp2_with fail
 refine (zy0 _ _ _).mono ?_
 rintro e w2 ⟨rfl, hw2⟩
 obtain ⟨hB2, hT2, hC2, hz2⟩ := zd0 w1 _ _ _ _ w2 hw2
 have HB2 := Lib.hid hB2
 have HT2 := Lib.hid hT2
 have HC2 := Lib.hid hC2
 have HZ2 := Lib.hid hz2
 clear hw2 hB2 hT2 hC2 hz2 z1
 go_wp2_with fail
 refine (wpIn_wide (n := 3)).1 ?_
 have hs1 : w.heap.size + 3 ≤ w1.heap.size := by have := G01.out.size; have := HZ.out; omega
 have HS1 := Lib.hid hs1
 clear hs1
 refine wpIn_rangeFunc_ownF (w0 := w2) rfl (by omega) (gf := 90) (lb := #[.pointer (some ⟨w1.heap.size + 1, 0, none⟩), .pointer (some ⟨w1.heap.size, 0, none⟩)]) rfl trivial (zbb Tryz.func90 (by kernel_rfl) (by kernel_rfl))
  (zpa Fence.wide 2 trivial rfl (by omega) (w1.heap.size + 1) w1.heap.size b1 o1 n cp w2.heap.size l k w2 HM.out HL.out (by have := HL.out; have := HK.out; omega)
   (zao HC2.out).1 HT2.out (zhd (zad G1.out HB2.out) HX.out) (by have := HZ2.out; omega) (by have := HZ2.out; omega) (by have := HQ.out; have := HS1.out; have := HZ2.out; omega) (Nat.le_refl _))
  belowK_t (belowK_b (Nat.le_refl _)) (Below.refl _ _) (fun _ => rfl)
  (fun pre W => (∀ y ∈ pre, q.toNat < sl l y.1) ∧ Below w2.heap.size w2 W)
  (fun c pre W => (((c = .ret ∧ ∃ (ys : List (Ln l k)) (x : Ln l k), pre = ys ++ [x] ∧ (∀ y ∈ ys, q.toNat < sl l y.1) ∧ sl l x.1 ≤ q.toNat) ∧ W.cell? ⟨w.heap.size + 1 + 1, 0, none⟩ = some (.int .i64 (ymm pre : Int))) ∧ Below w.heap.size w W))
  (z73 _ (Nat.le_refl _)) (fun c => z7u (w := w) (B := w2.heap.size) (fun pre : List (Ln l k) => c = .ret ∧ ∃ (ys : List (Ln l k)) (x : Ln l k), pre = ys ++ [x] ∧ (∀ y ∈ ys, q.toNat < sl l y.1) ∧ sl l x.1 ≤ q.toNat) _ (fun pre => .int .i64 (ymm pre : Int)) (by have := HZ2.out; have := HS1.out; omega))
  ⟨fun _ h => absurd h List.not_mem_nil, Below.refl _ _⟩ ?a1 ?assign ?body ?done ?stop
 case assign =>
  intro lo x W K hK
  gi_wp2
  exact hK
 case body =>
  rintro lo pre x W ⟨hp, hB⟩ hlen
  have HP := Lib.hid hp
  have HBW := Lib.hid hB
  have hg := zad G01.out (zad HB2.out hB)
  have c1 := za3 (zao (zab hg H1.out)).1
  obtain ⟨c2, c3⟩ := zao (zab hg H2.out)
  have HC2' : Hid (W.cell? ⟨w.heap.size + 1 + 1, 0, none⟩ = some (.int .i64 0) ∧ W.frozen? ⟨w.heap.size + 1 + 1, 0, none⟩ = false) := ⟨c2, c3⟩
  have HBw : Hid (Below w.heap.size w W) := zad G1.out (zad HB2.out hB)
  obtain ⟨z0, z1, zl⟩ := za2 (zab hg H0.out)
  dsimp only at z0
  rw [zat] at z0
  have c0 := za3 z0
  obtain ⟨x, hx⟩ := x
  have hxn : x < n := by have := ys5 HM.out HK.out hx; have := HL.out; omega
  have y2 := za3 (zk3 (zhd HBw.out HX.out) (i := x) (by have := HL.out; omega))
  have u1 : (x : Int) < (n : Int) := by omega
  have u2 : (0 : Int) ≤ (x : Int) := by omega
  have HXN := Lib.hid hx
  clear hp hB c2 c3 hlen z0 z1 hg
  by_cases he : sl l x ≤ q.toNat
  ·
   have t1 : decide ((nd l x).slot.toNat ≤ q.toNat) = true := decide_eq_true he
   have t1' : decide (((nd l x).slot.toNat : Int) ≤ (q.toNat : Int)) = true := by rw [decide_eq_true_iff]; unfold sl at he; omega
   have HE := Lib.hid he
   clear he
   gi_wp2
   refine zi8 [] (by kernel_rfl) (by kernel_rfl) (by kernel_rfl) (by kernel_rfl) ?_
   repeat (refine zae rfl rfl _ zag ?_; (first | go_big_quiet_step (fail) | quiet_step (fail)); refine wpQuiet_nil ?_)
   refine zbx ⟨rfl, ?_⟩
   obtain ⟨c2, c3⟩ := HC2'.out
   gi_wp2
   exact ⟨(KeepsOthers.drew W).trans (KeepsOthers.setCell _ _ _), ⟨⟨rfl, pre, ⟨x, HXN.out⟩, rfl, HP.out, HE.out⟩, by rw [zu1]; exact World.cell?_setCell_same' _ _ _ (by show (W.cell? _).isSome = true; rw [HC2'.out.1]; rfl)⟩, (zap HBw.out 1).setCell (p := ⟨w.heap.size + 1 + 1, 0, none⟩) (by simp; omega) _⟩
  ·
   have t1 : decide ((nd l x).slot.toNat ≤ q.toNat) = false := decide_eq_false he
   have t1' : decide (((nd l x).slot.toNat : Int) ≤ (q.toNat : Int)) = false := by rw [decide_eq_false_iff_not]; unfold sl at he; omega
   have HE := Lib.hid he
   clear he
   gi_wp2
   refine zi8 [] (by kernel_rfl) (by kernel_rfl) (by kernel_rfl) (by kernel_rfl) ?_
   repeat (refine zae rfl rfl _ zag ?_; (first | go_big_quiet_step (fail) | quiet_step (fail)); refine wpQuiet_nil ?_)
   refine zbx ⟨rfl, ?_⟩
   gi_wp2
   exact ⟨KeepsOthers.drew W, zap (Below.refl _ _) 1, fun y hy => by
    rcases List.mem_append.1 hy with h | h
    ·
     exact HP.out y h
    ·
     rw [List.mem_singleton] at h; subst h; have := HE.out; show q.toNat < sl l x; omega, zap HBW.out 1⟩
 case done =>
  rintro D ys W hD hys ⟨hp, hB⟩ hK
  have hX : r = -1 := by
   rw [HR.out]
   refine yma HM.out q.toNat HK.out fun y hy => ?_
   rw [← hys] at hy
   obtain ⟨z, hz, e⟩ := List.mem_map.1 hy
   rw [← e]
   exact hp z hz
  have HX' := Lib.hid hX
  have HKD := Lib.hid hK
  have hc : W.cell? ⟨w.heap.size + 1 + 1, 0, none⟩ = some (.int .i64 0) ∧ W.frozen? ⟨w.heap.size + 1 + 1, 0, none⟩ = false := zao (zab (zad G01.out (zad HB2.out hB)) H2.out)
  have HC := Lib.hid hc
  obtain ⟨c2, c3⟩ := hc
  have HBw : Hid (Below w.heap.size w W) := zad G1.out (zad HB2.out hB)
  clear hX hp hB hK hys
  go_wp2_with fail
  have hK' := (KeepsOthers.setCell W ⟨w.heap.size + 1 + 1, 0, none⟩ (.int .i64 (-1))).same D _ HKD.out rfl
  have hs := zmm hK' (World.cell?_setCell_same' W ⟨w.heap.size + 1 + 1, 0, none⟩ (.int .i64 (-1)) (by rw [HC.out.1]; rfl))
  exact zkc (v := .int .i64 (-1)) hK' ⟨by simp [results, Tryz.results23, go_sem, hs], by rw [HX'.out], zeh hK' (HBw.out.setCell (p := ⟨w.heap.size + 1 + 1, 0, none⟩) (by simp; omega) _) (by have := HZ2.out; have := HS1.out; omega)⟩
 case stop =>
  rintro D c pre W hD hpre ⟨⟨⟨rfl, ys, x, rfl, ha, hx⟩, hc⟩, hB⟩ hK
  rw [zu1] at hc
  have hX : r = (x.1 : Int) := by
   rw [HR.out]
   obtain ⟨t, ht⟩ := hpre
   rw [List.map_append, List.append_assoc] at ht
   refine ysi HM.out q.toNat k HK.out (ys.map Subtype.val) t x.1 ht.symm (fun y hy => ?_) hx
   obtain ⟨z, hz, e⟩ := List.mem_map.1 hy
   rw [← e]
   exact ha z hz
  have HX' := Lib.hid hX
  have HBW := Lib.hid hB
  have HKD := Lib.hid hK
  have hs := zmm hK hc
  have HD := Lib.hid hD
  clear hX hB ha hx hpre
  gi_wp2
  exact zkc (v := .int .i64 (x.1 : Int)) HKD.out ⟨by simp [results, Tryz.results23, go_sem, hs], by rw [HX'.out], zeh HKD.out HBW.out (by have := HZ2.out; have := HS1.out; have := HD.out; omega)⟩
theorem yu8 (s : SlV) (l : List Nd) (i : Int) (q : UInt64) (w : World) (h : SlE Ene w (sv s) l) :
  Calls Tryz.prog 23 #[.agg (tr ⟨s⟩), .int .i64 i, .int .u64 (q.toNat : Int)] w fun e w' => e = .returned (.int .i64 (atZ l i q.toNat)) ∧ Below w.heap.size w w' := by
 by_cases hk : isT l i = true
 ·
  obtain ⟨hm, hk0, hk1⟩ := ziz.1 hk
  obtain ⟨k', rfl⟩ : ∃ k' : Nat, i = k' := ⟨i.toNat, by omega⟩
  rw [z4k hm (by omega)]
  exact ybe s l k' q w h hm (by omega)
 ·
  have hk' : isT l i = false := by simpa using hk
  unfold atZ
  rw [hk', if_neg Bool.false_ne_true]
  exact yfz s l i q w h hk'
end
theorem beside17P : zt8 where
 find := zfk
 above := zh2
 at_ := yu8
 best := fun s v l js fin w h h3 _ hj => z62 s v l js fin w h h3 (Nat.le_trans hj (by decide))
end Go.Proofs.YtmihlihlpdkdcaaGreat
