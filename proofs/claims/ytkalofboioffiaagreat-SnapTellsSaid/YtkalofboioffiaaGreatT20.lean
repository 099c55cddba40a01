import Derived.Test.YtkalofboioffiaaGreatT19
import Derived.Maps.OwnSet
namespace Go.Proofs.YtkalofboioffiaaGreat
open Go.RowKit
set_option maxRecDepth 200000
set_option maxHeartbeats 64000000
theorem yiz (w : World) (a b c d : Array Value) (s t u v : TypeId) (W : World) (hW : W = (((w.alloc (.cells a s)).alloc (.cells b t)).alloc (.cells c u)).alloc (.cells d v)) : Below w.heap.size w W ∧ W.heap[w.heap.size]? = some (.cells a s (0, 0)) ∧ W.heap[w.heap.size + 1]? = some (.cells b t (0, 0)) ∧ W.heap[w.heap.size + 1 + 1]? = some (.cells c u (0, 0)) ∧ W.heap[w.heap.size + 1 + 1 + 1]? = some (.cells d v (0, 0)) := by
 obtain ⟨W', hW'⟩ : ∃ W', W' = ((w.alloc (.cells a s)).alloc (.cells b t)).alloc (.cells c u) := ⟨_, rfl⟩
 obtain ⟨hB, q0, q1, q2, hz⟩ := zf2 w _ _ _ _ _ _ W' hW'
 rw [← hW'] at hW
 subst hW
 refine ⟨zab hB below1, zac below1 q0, zac below1 q1, zac below1 q2, ?_⟩
 have := heap_alloc_last W' (.cells d v)
 rwa [hz] at this
theorem yiv {g : Eg} (h : fewG g = true) : g.j.length + g.k.length ≤ 1000 := by
 unfold fewG at h
 simp only [Bool.and_eq_true, decide_eq_true_iff] at h
 omega
theorem zxr (H : z88) (HX : zlm) (x : En) (g : Eg) (ver : Int) (y z : Sn) (s o : Sg) (c : Cl) (w : World) (h : LaidG w x g) (h1 : LaidS w y s) (h2 : LaidS w z o) :
  Calls Tryz.prog 3 #[.agg (en x), .int .i64 ver, .agg (sn y), .agg (sn z), .agg (cl c)] w fun e w' => e = .returned (.bool true) ∧ Below w.heap.size w w' := by
 obtain ⟨W0, hW0⟩ : ∃ W0, W0 = (((w.alloc (.cells (en x) 38)).alloc (.cells (sn y) 40)).alloc (.cells (sn z) 40)).alloc (.cells (cl c) 43) := ⟨_, rfl⟩
 obtain ⟨hB, q0, q1, q2, q3⟩ := yiz w _ _ _ _ _ _ _ _ W0 hW0
 have A : Hid (Gv w W0 w.heap.size x g) := ⟨q0, h.keep hB, hB⟩
 have S : Hid (Sw w W0 (w.heap.size + 1) y s) := ⟨q1, h1.keep hB, hB⟩
 have V : Hid (Sw w W0 (w.heap.size + 1 + 1) z o) := ⟨q2, h2.keep hB, hB⟩
 have MC : Hid (W0.heap[w.heap.size + 1 + 1 + 1]? = some (.cells (cl c) 43 (0, 0))) := q3
 have HW := Lib.hid hW0
 have HAw := Lib.hid (fun W => zvl H HX W)
 obtain ⟨f, hf⟩ : ∃ f, f = fewG g := ⟨_, rfl⟩
 have HFw := Lib.hid (fun W (hh : LaidG W x g) => ylp x g W hh)
 rw [← hf] at HFw
 have HFt : Hid (f = true → fewG g = true) := fun e => hf.symm.trans e
 have HH := Lib.hid H
 obtain ⟨⟨ps, ns, cs⟩, hs1⟩ : ∃ s : SlV, s = y.t.n := ⟨_, rfl⟩
 obtain ⟨⟨po, no, co⟩, hs2⟩ : ∃ s : SlV, s = z.t.n := ⟨_, rfl⟩
 have HNs : Hid (s.t.length = ns) := by have := zd8 h1.t; rw [← hs1] at this; exact this
 have HNo : Hid (o.t.length = no) := by have := zd8 h2.t; rw [← hs2] at this; exact this
 have HS1 := Lib.hid hs1
 have HS2 := Lib.hid hs2
 clear hW0 hB q0 q1 q2 q3 h h1 h2 hf H HX hs1 hs2
 go_enter Tryz.func3, Tryz.ntmps3
 go_upto_region 1 with fail
 rw [← HW.out]
 go_wp2_with fail
 refine (HAw.out _).mono ?_
 rintro e w1 ⟨rfl, g⟩
 replace A := Lib.hid (A.out.keep g)
 replace S := Lib.hid (S.out.keep g)
 replace V := Lib.hid (V.out.keep g)
 replace MC := Lib.hid (zac g MC.out)
 clear g
 have z1 := A.out.z
 go_wp2_with fail
 refine (HFw.out _ A.out.l).mono ?_
 rintro e w2 ⟨rfl, g⟩
 replace A := Lib.hid (A.out.keep g)
 replace S := Lib.hid (S.out.keep g)
 replace V := Lib.hid (V.out.keep g)
 replace MC := Lib.hid (zac g MC.out)
 clear g z1
 have zs := S.out.zt
 rw [← HS1.out, za0] at zs
 have zo := V.out.zt
 rw [← HS2.out, za0] at zo
 cases f
 ·
  go_wp2_with fail
  go_ret
  exact ⟨rfl, A.out.g⟩
 ·
  have FW := Lib.hid (HFt.out rfl)
  by_cases ta : 20 < ns
  ·
   have tai : decide ((20 : Int) < (ns : Int)) = true := decide_eq_true (by omega)
   have taj : decide (20 < ns) = true := decide_eq_true ta
   clear ta
   go_wp2_with fail
   go_ret
   exact ⟨rfl, A.out.g⟩
  ·
   have tai : decide ((20 : Int) < (ns : Int)) = false := decide_eq_false (by omega)
   have taj : decide (20 < ns) = false := decide_eq_false ta
   by_cases tb : 20 < no
   ·
    have tbi : decide ((20 : Int) < (no : Int)) = true := decide_eq_true (by omega)
    have tbj : decide (20 < no) = true := decide_eq_true tb
    clear ta tb
    go_wp2_with fail
    go_ret
    exact ⟨rfl, A.out.g⟩
   ·
    have tbi : decide ((20 : Int) < (no : Int)) = false := decide_eq_false (by omega)
    have tbj : decide (20 < no) = false := decide_eq_false tb
    have Ls : Hid (s.t.length ≤ 1000) := by show _ ≤ _; rw [HNs.out]; omega
    have Lo : Hid (o.t.length ≤ 1000) := by show _ ≤ _; rw [HNo.out]; omega
    clear ta tb HFt HFw HAw HW
    have SM := Lib.hid (zs5 FW.out).1
    have JK := Lib.hid (yiv FW.out)
    have HO := Lib.hid (fun W hh => HH.out.of x g ver W hh SM.out)
    have HO2 := Lib.hid (fun W hh => ygn x g ver W hh SM.out JK.out)
    obtain ⟨q, hq⟩ : ∃ q, q = ofE g ver := ⟨_, rfl⟩
    have HQl : Hid (q.t.length ≤ 1000) := by show _ ≤ _; rw [hq]; unfold ofE; split; exact SM.out.t; exact Nat.zero_le _
    rw [← hq] at HO HO2
    have HSa := Lib.hid (fun y z W h1 h2 => zun y z q q W h1 h2 HQl.out)
    rw [decide_eq_true rfl] at HSa
    have HM := Lib.hid (fun W hh => zzl y s W hh Ls.out)
    have HM2 := Lib.hid (fun W hh => HH.out.may y s W hh)
    obtain ⟨m, hm⟩ : ∃ m, m = mayN s := ⟨_, rfl⟩
    rw [← hm] at HM HM2
    have HS3 := Lib.hid (fun W h1 h2 => zun y z s o W h1 h2 Ls.out)
    have HS4 := Lib.hid (fun W h1 h2 => HH.out.same y z s o W h1 h2 Ls.out Lo.out)
    obtain ⟨d, hd⟩ : ∃ d, d = decide (s = o) := ⟨_, rfl⟩
    rw [← hd] at HS3 HS4
    have HK := Lib.hid (fun W hh => HH.out.ask y s c W hh)
    have HK2 := Lib.hid (fun W hh => ycd y s c W hh Ls.out)
    obtain ⟨R, hR⟩ : ∃ R, R = rsOf (askN s c.kind c.a c.b c.slot.toNat) := ⟨_, rfl⟩
    rw [← hR] at HK HK2
    have HN := Lib.hid (fun W hh => HH.out.note y s W hh)
    clear hq hm hd hR HH
    have z1 := A.out.z
    go_upto_region 5 with fail
    have L0 := fun p : Wd w2.drew => zbb z1 (by decide) p
    clear z1 zs zo
    refine zaj [2, 5, 6] (by kernel_rfl) (by kernel_rfl) (by kernel_rfl) ?_
    repeat (first | (refine zae rfl rfl _ zaf ?_; (first | go_big_quiet_step (fail) | quiet_step (fail)); refine wpQuiet_nil ?_) | refine zag rfl ?_)
    refine zan rfl rfl rfl zq1 #[.agg (en x), .int .i64 ver] rfl ?_
    refine (HO.out _ (A.out.l.keep (zah (Below.refl _ _) 1))).mono ?_
    rintro e u ⟨x2, rfl, k2, g⟩
    refine ⟨_, rfl, g, ?_⟩
    simp only [Act.put, List.setIfInBounds_toArray, List.set_cons_zero, List.set_cons_succ]
    have GB : Hid (Below w2.heap.size w2 u) := zab (zah (Below.refl _ _) 1) g
    have K2 := Lib.hid k2
    clear k2
    clear g
    repeat (first | (refine zae rfl rfl _ zaf ?_; (first | go_big_quiet_step (fail) | quiet_step (fail)); refine wpQuiet_nil ?_) | refine zag rfl ?_)
    refine zan rfl rfl rfl zoq #[.agg (en x), .int .i64 ver] rfl ?_
    refine (HO2.out _ (A.out.l.keep GB.out)).mono ?_
    rintro e u ⟨x3, rfl, k3, g⟩
    refine ⟨_, rfl, g, ?_⟩
    simp only [Act.put, List.setIfInBounds_toArray, List.set_cons_zero, List.set_cons_succ]
    replace K2 := Lib.hid (K2.out.keep g)
    have K3 := Lib.hid k3
    replace GB : Hid (Below w2.heap.size w2 u) := zab GB.out g
    clear g k3
    repeat (first | (refine zae rfl rfl _ zaf ?_; (first | go_big_quiet_step (fail) | quiet_step (fail)); refine wpQuiet_nil ?_) | refine zag rfl ?_)
    refine zan rfl rfl rfl zld #[.agg (sn x2), .agg (sn x3)] rfl ?_
    refine (HSa.out _ _ _ K2.out K3.out).mono ?_
    rintro e u ⟨rfl, g⟩
    refine ⟨_, rfl, g, ?_⟩
    simp only [Act.put, List.setIfInBounds_toArray, List.set_cons_zero, List.set_cons_succ]
    replace GB : Hid (Below w2.heap.size w2 u) := zab GB.out g
    clear g K2 K3
    repeat (first | (refine zae rfl rfl _ zaf ?_; (first | go_big_quiet_step (fail) | quiet_step (fail)); refine wpQuiet_nil ?_) | refine zag rfl ?_)
    refine za3 ?_
    clear L0
    replace A := Lib.hid (A.out.keep GB.out)
    replace S := Lib.hid (S.out.keep GB.out)
    replace V := Lib.hid (V.out.keep GB.out)
    replace MC := Lib.hid (zac GB.out MC.out)
    clear GB
    obtain ⟨w3, rfl⟩ : ∃ W : World, W = u := ⟨_, rfl⟩
    have z1 := S.out.z
    go_wp2_with fail
    refine (HM.out _ S.out.l).mono ?_
    rintro e w4 ⟨rfl, g⟩
    replace A := Lib.hid (A.out.keep g)
    replace S := Lib.hid (S.out.keep g)
    replace V := Lib.hid (V.out.keep g)
    replace MC := Lib.hid (zac g MC.out)
    clear g z1
    have z1 := S.out.z
    have z2 := V.out.z
    go_wp2_with fail
    refine (HS3.out _ S.out.l V.out.l).mono ?_
    rintro e w5 ⟨rfl, g⟩
    replace A := Lib.hid (A.out.keep g)
    replace S := Lib.hid (S.out.keep g)
    replace V := Lib.hid (V.out.keep g)
    replace MC := Lib.hid (zac g MC.out)
    clear g z1 z2
    have z1 := S.out.z
    have z2 := V.out.z
    have zc := zar MC.out (zj5 _)
    have zv := S.out.zv
    have zh := S.out.zh
    have zf := S.out.zf
    go_upto_region 8 with fail
    have L0 := fun p : Wd w5.drew => zbb z1 (by decide) p
    have L1 := fun p : Wd w5.drew => zbb z2 (by decide) p
    have L2 := fun p : Wd w5.drew => zbb zc (by decide) p
    have L3 := fun p : Wd w5.drew => zbc zv p
    have L4 := fun p : Wd w5.drew => zbb zh (by decide) p
    have L5 := fun p : Wd w5.drew => zbb zf (by decide) p
    clear z1 z2 zc zv zh zf
    refine zaj [3, 7, 10, 14, 17, 20, 23, 25] (by kernel_rfl) (by kernel_rfl) (by kernel_rfl) ?_
    repeat (first | (refine zae rfl rfl _ zaf ?_; (first | go_big_quiet_step (fail) | quiet_step (fail)); refine wpQuiet_nil ?_) | refine zag rfl ?_)
    refine zan rfl rfl rfl zos #[.agg (sn y)] rfl ?_
    refine (HM2.out _ (S.out.l.keep (zah (Below.refl _ _) 1))).mono ?_
    rintro e u ⟨rfl, g⟩
    refine ⟨_, rfl, g, ?_⟩
    simp only [Act.put, List.setIfInBounds_toArray, List.set_cons_zero, List.set_cons_succ]
    have GB : Hid (Below w5.heap.size w5 u) := zab (zah (Below.refl _ _) 1) g
    clear g
    repeat (first | (refine zae rfl rfl _ zaf ?_; (first | go_big_quiet_step (fail) | quiet_step (fail)); refine wpQuiet_nil ?_) | refine zag rfl ?_)
    refine zff rfl rfl (.bool true) _ rfl (Below.refl _ _) ?_
    simp only [Act.put, List.setIfInBounds_toArray, List.set_cons_zero, List.set_cons_succ]
    repeat (first | (refine zae rfl rfl _ zaf ?_; (first | go_big_quiet_step (fail) | quiet_step (fail)); refine wpQuiet_nil ?_) | refine zag rfl ?_)
    refine zan rfl rfl rfl zmu #[.agg (sn y), .agg (sn z)] rfl ?_
    refine (HS4.out _ (S.out.l.keep GB.out) (V.out.l.keep GB.out)).mono ?_
    rintro e u ⟨rfl, g⟩
    refine ⟨_, rfl, g, ?_⟩
    simp only [Act.put, List.setIfInBounds_toArray, List.set_cons_zero, List.set_cons_succ]
    replace GB : Hid (Below w5.heap.size w5 u) := zab GB.out g
    clear g
    repeat (first | (refine zae rfl rfl _ zaf ?_; (first | go_big_quiet_step (fail) | quiet_step (fail)); refine wpQuiet_nil ?_) | refine zag rfl ?_)
    refine zff rfl rfl (.bool true) _ rfl (Below.refl _ _) ?_
    simp only [Act.put, List.setIfInBounds_toArray, List.set_cons_zero, List.set_cons_succ]
    repeat (first | (refine zae rfl rfl _ zaf ?_; (first | go_big_quiet_step (fail) | quiet_step (fail)); refine wpQuiet_nil ?_) | refine zag rfl ?_)
    refine zan rfl rfl rfl zor #[.agg (sn y), .agg (cl c)] rfl ?_
    refine (HK.out _ (S.out.l.keep GB.out)).mono ?_
    rintro e u ⟨rfl, g⟩
    refine ⟨_, rfl, g, ?_⟩
    simp only [Act.put, List.setIfInBounds_toArray, List.set_cons_zero, List.set_cons_succ]
    replace GB : Hid (Below w5.heap.size w5 u) := zab GB.out g
    clear g
    repeat (first | (refine zae rfl rfl _ zaf ?_; (first | go_big_quiet_step (fail) | quiet_step (fail)); refine wpQuiet_nil ?_) | refine zag rfl ?_)
    refine zan rfl rfl rfl zms #[.agg (sn y), .agg (cl c)] rfl ?_
    refine (HK2.out _ (S.out.l.keep GB.out)).mono ?_
    rintro e u ⟨rfl, g⟩
    refine ⟨_, rfl, g, ?_⟩
    simp only [Act.put, List.setIfInBounds_toArray, List.set_cons_zero, List.set_cons_succ]
    replace GB : Hid (Below w5.heap.size w5 u) := zab GB.out g
    clear g
    repeat (first | (refine zae rfl rfl _ zaf ?_; (first | go_big_quiet_step (fail) | quiet_step (fail)); refine wpQuiet_nil ?_) | refine zag rfl ?_)
    refine zff rfl rfl (.bool true) _ rfl (Below.refl _ _) ?_
    simp only [Act.put, List.setIfInBounds_toArray, List.set_cons_zero, List.set_cons_succ]
    repeat (first | (refine zae rfl rfl _ zaf ?_; (first | go_big_quiet_step (fail) | quiet_step (fail)); refine wpQuiet_nil ?_) | refine zag rfl ?_)
    refine zan rfl rfl rfl zmt #[.agg (sn y)] rfl ?_
    refine (HN.out _ (S.out.l.keep GB.out)).mono ?_
    rintro e u ⟨rfl, g⟩
    refine ⟨_, rfl, g, ?_⟩
    simp only [Act.put, List.setIfInBounds_toArray, List.set_cons_zero, List.set_cons_succ]
    replace GB : Hid (Below w5.heap.size w5 u) := zab GB.out g
    clear g
    repeat (first | (refine zae rfl rfl _ zaf ?_; (first | go_big_quiet_step (fail) | quiet_step (fail)); refine wpQuiet_nil ?_) | refine zag rfl ?_)
    refine za3 ?_
    clear L0 L1 L2 L3 L4 L5
    replace A := Lib.hid (A.out.keep GB.out)
    replace S := Lib.hid (S.out.keep GB.out)
    replace V := Lib.hid (V.out.keep GB.out)
    replace MC := Lib.hid (zac GB.out MC.out)
    clear GB
    obtain ⟨w6, rfl⟩ : ∃ W : World, W = u := ⟨_, rfl⟩
    go_wp2_with fail
    go_ret
    exact ⟨rfl, A.out.g⟩
theorem snapTellsL (H : z88) (HX : zlm) (x : En) (g : Eg) (ver : Int) (y : Sn) (s : Sg) (z : Sn) (o : Sg) (c : Cl) (w : World) (h : LaidG w x g) (h1 : LaidS w y s) (h2 : LaidS w z o) :
  Calls Tryz.prog 3 #[.agg (en x), .int .i64 ver, .agg (sn y), .agg (sn z), .agg (cl c)] w fun e w' => e = .returned (.bool true) ∧ Below w.heap.size w w' := by
 exact zxr H HX x g ver y z s o c w h h1 h2
theorem z18 (x : Sn) (s : Sg) (w : World) (h : LaidS w x s) :
  Calls Tryz.prog 19 #[.agg (sn x)] w fun e w' => e = .returned (.agg (nt ⟨s.ver, s.head, s.fin⟩)) ∧ Below w.heap.size w w' := by
 obtain ⟨W0, hW0⟩ : ∃ W0, W0 = (w.alloc (.cells (sn x) 40)).alloc (.cells (nt znt) 54) := ⟨_, rfl⟩
 obtain ⟨hB, q0, q1, _⟩ := zc2 w _ _ _ _ W0 hW0
 have A : Hid (Sw w W0 w.heap.size x s) := ⟨q0, h.keep hB, hB⟩
 have MR : Hid (W0.heap[w.heap.size + 1]? = some (.cells (nt znt) 54 (0, 0))) := q1
 have HW := Lib.hid hW0
 clear hW0 hB q0 q1 h
 go_enter Tryz.func19, Tryz.ntmps19
 go_upto_region 1 with fail
 rw [← HW.out]
 have zv := A.out.zv
 have zh := A.out.zh
 have zf := A.out.zf
 have yw := zau MR.out (znv _)
 go_wp2_with fail
 exact bodyPost_ret (zao Tryz.isAgg54 Tryz.sizeOf54 _ 2 rfl _ _ _ _ rfl (za4 MR.out (znv _) (znv _))) rfl ⟨rfl, zas A.out.g (by omega)⟩
theorem z0y (p q : Option Addr) (n m cl ck : Nat) (w : World) (hl : n ≠ m) :
  Calls Tryz.prog 49 #[.slice p n cl, .slice q m ck] w fun e w' => e = .returned (.bool false) ∧ Below w.heap.size w w' := by
 have e1 : ((n : Int) == (m : Int)) = false := by simp; omega
 clear hl
 go_enter Tryz.func49, Tryz.ntmps49
 go_wp2_with fail
 go_ret
 exact ⟨rfl, Below.refl _ _⟩
theorem z0x (p q : Option Addr) (n cl ck : Nat) (l k : List Nd) (w : World) (h : SlE Ene w (.slice p n cl) l) (h' : SlE Ene w (.slice q n ck) k) (hl : l.length = n) (hk : k.length = n) (hn : n ≤ 1000) :
  Calls Tryz.prog 49 #[.slice p n cl, .slice q n ck] w fun e w' => e = .returned (.bool (decide (l = k))) ∧ Below w.heap.size w w' := by
 have HS := Lib.hid h
 have HT := Lib.hid h'
 have HL := Lib.hid hl
 have HK := Lib.hid hk
 have HN := Lib.hid hn
 obtain ⟨r, hr⟩ : ∃ r, r = decide (l = k) := ⟨_, rfl⟩
 rw [← hr]
 have HR := Lib.hid hr
 clear h h' hl hk hn hr
 go_enter Tryz.func49, Tryz.ntmps49
 go_wp2_with fail
 go_loopw [5, 13] (fun _ i wr => ∃ j : Nat, j ≤ n ∧ i = .int .i64 j ∧ (∀ x, x < j → nd l x = nd k x) ∧ Below w.heap.size w wr) (fun _ i _ => n - (intOf i).toNat)
 case atStart => exact ⟨0, Nat.zero_le _, rfl, fun x hx => absurd hx (Nat.not_lt_zero _), Below.refl _ _⟩
 case round =>
  obtain ⟨j, hj, rfl, hx, hb⟩ := hrel
  have HX := Lib.hid hx
  have HB := Lib.hid hb
  clear hx hb
  by_cases hlt : j < n
  ·
   have i0 : (0 : Int) ≤ (j : Int) := by omega
   have i1 : (j : Int) < (n : Int) := by omega
   have u1 : (j : Int) + 1 < 10000 := by have := HN.out; omega
   obtain ⟨b1, o1, c1, e1, _, q1, x1⟩ := zcz HS.out (by have := HL.out; omega)
   injection e1 with e2 _ e3
   subst e2 e3
   obtain ⟨b2, o2, c2, e1, _, q2, x2⟩ := zcz HT.out (by have := HK.out; omega)
   injection e1 with e2 _ e3
   subst e2 e3
   have y1 : ldA wr (.pointer (some ⟨b1, o1 + j * 35, none⟩)) 35 = some (ne (nd l j)) := keep HB.out (zjd x1 (by have := HL.out; omega))
   have y2 : ldA wr (.pointer (some ⟨b2, o2 + j * 35, none⟩)) 35 = some (ne (nd k j)) := keep HB.out (zjd x2 (by have := HK.out; omega))
   clear x1 x2 q1 q2
   by_cases he : nd l j = nd k j
   ·
    have HE := Lib.hid he
    rw [he] at y1
    clear he
    go_wp2_with fail
    go_quiet (fail)
    go_wp2_with fail
    go_roundw
    case rel => exact ⟨j + 1, by omega, by go_num, fun x hx => by
     rcases Nat.lt_succ_iff_lt_or_eq.1 hx with h | rfl
     ·
      exact HX.out x h
     ·
      exact HE.out, zah HB.out _⟩
    case measure => simp [intOf]; omega
   ·
    have hR : Hid (r = false) := by
     show r = false
     rw [HR.out, decide_eq_false_iff_not]
     intro e; exact he (by rw [e])
    have t1 : decide (nd l j = nd k j) = false := decide_eq_false he
    clear he
    go_wp2_with fail
    go_quiet (fail)
    go_wp2_with fail
    go_ret
    exact ⟨by rw [hR.out]; first | done | rfl, zah HB.out _⟩
  ·
   obtain rfl : j = n := by omega
   have hR : Hid (r = true) := by
    show r = true
    rw [HR.out, decide_eq_true_iff]
    exact ydw (by rw [HL.out, HK.out]) fun i hi => HX.out i (by have := HK.out; omega)
   go_wp2_with fail
   go_ret
   exact ⟨by rw [hR.out]; first | done | rfl, HB.out⟩
theorem zv0 (s t : SlV) (l k : List Nd) (w : World) (h : SlE Ene w (sv s) l) (h' : SlE Ene w (sv t) k) (hn : l.length ≤ 1000) :
  Calls Tryz.prog 49 #[sv s, sv t] w fun e w' => e = .returned (.bool (decide (l = k))) ∧ Below w.heap.size w w' := by
 have hs := zbk h
 have ht := zbk h'
 obtain ⟨p, n, cl⟩ := s
 obtain ⟨q, m, ck⟩ := t
 dsimp only at hs ht
 by_cases e : n = m
 ·
  subst e
  exact z0x p q n cl ck l k w h h' hs ht (by omega)
 ·
  rw [decide_eq_false (fun he => e (by rw [← hs, ← ht, he]))]
  exact z0y p q n m cl ck w e
theorem yc0 (s t : SlV) (l k : List Nd) (w : World) (h : SlE Ene w (sv s) l) (h' : SlE Ene w (sv t) k) (hn : l.length ≤ 1000) :
  Calls Tryz.prog 22 #[.agg (tr ⟨s⟩), .agg (tr ⟨t⟩)] w fun e w' => e = .returned (.bool (decide (l = k))) ∧ Below w.heap.size w w' := by
 have HC := Lib.hid (fun W (g : Below w.heap.size w W) => zv0 s t l k W (zad g h) (zad g h') hn)
 have HB : Hid (Below w.heap.size w ((w.alloc (.cells (tr ⟨s⟩) 24)).alloc (.cells (tr ⟨t⟩) 24))) := zab below1 below1
 obtain ⟨r, hr⟩ : ∃ r, r = decide (l = k) := ⟨_, rfl⟩
 rw [← hr] at HC ⊢
 clear h h' hn hr
 obtain ⟨p, n, cp⟩ := s
 obtain ⟨q, m, cq⟩ := t
 go_enter Tryz.func22, Tryz.ntmps22
 go_wp2_with fail
 refine (HC.out _ HB.out).mono ?_
 rintro e w1 ⟨rfl, g1⟩
 have G1 := Lib.hid g1
 clear g1
 go_wp2_with fail
 go_ret
 exact ⟨rfl, zab HB.out G1.out⟩
theorem z19 (x y : Sn) (s t : Sg) (w : World) (h : LaidS w x s) (h' : LaidS w y t) (hn : s.t.length ≤ 1000) :
  Calls Tryz.prog 16 #[.agg (sn x), .agg (sn y)] w fun e w' => e = .returned (.bool (decide (s = t))) ∧ Below w.heap.size w w' := by
 obtain ⟨W0, hW0⟩ : ∃ W0, W0 = (w.alloc (.cells (sn x) 40)).alloc (.cells (sn y) 40) := ⟨_, rfl⟩
 obtain ⟨hB, q0, q1, _⟩ := zc2 w _ _ _ _ W0 hW0
 have A : Hid (Sw w W0 w.heap.size x s) := ⟨q0, h.keep hB, hB⟩
 have B : Hid (Sw w W0 (w.heap.size + 1) y t) := ⟨q1, h'.keep hB, hB⟩
 have HW := Lib.hid hW0
 have H1 := Lib.hid (fun W a b => yc0 x.t.n y.t.n s.t t.t W a b hn)
 obtain ⟨a1, e1⟩ : ∃ a, a = decide (s.t = t.t) := ⟨_, rfl⟩
 obtain ⟨a2, e2⟩ : ∃ a, a = (s.ver == t.ver) := ⟨_, rfl⟩
 obtain ⟨a3, e3⟩ : ∃ a, a = eqB s.head t.head := ⟨_, rfl⟩
 obtain ⟨a4, e4⟩ : ∃ a, a = decide (s.just = t.just) := ⟨_, rfl⟩
 obtain ⟨a5, e5⟩ : ∃ a, a = decide (s.fin = t.fin) := ⟨_, rfl⟩
 have HF : Hid (decide (s = t) = (a2 && (a1 && (a3 && (a4 && a5))))) := by
  show _ = _
  rw [e1, e2, e3, e4, e5, Bool.eq_iff_iff]
  simp only [Bool.and_eq_true, decide_eq_true_iff, beq_iff_eq, zq2]
  constructor
  ·
   rintro rfl; exact ⟨rfl, rfl, rfl, rfl, rfl⟩
  ·
   rintro ⟨h1, h2, h3, h4, h5⟩
   exact Sg.ext h1 h2 h3 h4 h5
 have t2 := e2.symm
 have t2' : decide (s.ver = t.ver) = a2 := by rw [e2, Bool.eq_iff_iff, decide_eq_true_iff, beq_iff_eq]
 have t3 := e3.symm
 have t4 := e4.symm
 have t5 := e5.symm
 rw [← e1] at H1
 obtain ⟨r, hr⟩ : ∃ r, r = decide (s = t) := ⟨_, rfl⟩
 rw [← hr] at HF ⊢
 clear hW0 hB q0 q1 h h' hn e1 e2 e3 e4 e5 hr
 go_enter Tryz.func16, Tryz.ntmps16
 go_upto_region 1 with fail
 rw [← HW.out]
 have za := A.out.zT
 have zc := B.out.zT
 have x1 := A.out.zv
 have x2 := B.out.zv
 cases a2
 ·
  go_wp2_with fail
  go_ret
  exact ⟨by rw [HF.out]; first | done | rfl | simp, A.out.g⟩
 go_wp2_with fail
 refine (H1.out _ A.out.l.t B.out.l.t).mono ?_
 rintro e w1 ⟨rfl, gg⟩
 replace A := Lib.hid (A.out.keep gg)
 replace B := Lib.hid (B.out.keep gg)
 clear za zc x1 x2 gg H1
 have x3 := A.out.zh
 have x4 := B.out.zh
 have x5 := A.out.zj
 have x6 := B.out.zj
 have x7 := A.out.zf
 have x8 := B.out.zf
 have last : r = (a1 && (a3 && (a4 && a5))) := by rw [HF.out]; rfl
 replace HF := Lib.hid last
 clear last
 cases a1
 ·
  go_wp2_with fail
  go_ret
  exact ⟨by rw [HF.out]; first | done | rfl | simp, A.out.g⟩
 cases a3
 ·
  go_wp2_with fail
  go_ret
  exact ⟨by rw [HF.out]; first | done | rfl | simp, A.out.g⟩
 cases a4
 ·
  go_wp2_with fail
  go_ret
  exact ⟨by rw [HF.out]; first | done | rfl | simp, A.out.g⟩
 cases a5
 ·
  go_wp2_with fail
  go_ret
  exact ⟨by rw [HF.out]; first | done | rfl | simp, A.out.g⟩
 go_wp2_with fail
 go_ret
 exact ⟨by rw [HF.out]; first | done | rfl | simp, A.out.g⟩
section
open Go.Maps
def z1h (r : Rt) : List Lit := (List.range 32).map fun i => Lit.int .u8 (at8 r i)
def rk (r : Rt) : Lit := .string (keyBytes (z1h r))
theorem keyed_root : Keyed Tryz.prog 34 := Keyed.of_law arr_root.law
theorem wf8 (r : Rt) (i : Nat) : (Lit.int .u8 (at8 r i)).wf = true := by
 have := yh4 r i
 show (decide (IntKind.u8.min ≤ at8 r i) && decide (at8 r i ≤ IntKind.u8.max)) = true
 rw [Bool.and_eq_true, decide_eq_true_eq, decide_eq_true_eq, show IntKind.u8.min = 0 from rfl, show IntKind.u8.max = 255 from rfl]
 omega
theorem zi4 (r : Rt) : keyOf Tryz.prog 34 (.agg (rc r)) = some (rk r) := by
 have hkt : Tryz.prog.keyType 34 = true := by kernel_rfl
 have hf : (Value.agg (rc r)).formed Tryz.prog 34 = true := by simp [Value.formed, Tryz.underlying34, arr_root.size, zay]
 obtain ⟨D, hD⟩ : ∃ D, Tryz.prog.types.size = D + 1 := ⟨Tryz.prog.types.size - 1, by have : 1 ≤ Tryz.prog.types.size := of_decide_eq_true (by kernel_rfl); omega⟩
 unfold keyOf
 simp only [Tryz.underlying34]
 rw [if_pos (by rw [hkt, hf]; rfl), hD]
 unfold Program.keyLits
 simp only [Tryz.underlying34, Value.cells]
 rw [if_pos (by rw [arr_root.size]; simp [zay]), arr_root.one]
 rw [zri _ (List.range 32) ((List.range 32).map fun i => [Lit.int .u8 (at8 r i)]) (by simp) (fun j x y hx hy => ?_)]
 ·
  have hfl : ∀ l : List Nat, (l.map fun i => [Lit.int .u8 (at8 r i)]).flatten = l.map fun i => Lit.int .u8 (at8 r i) := fun l => by induction l with | nil => rfl | cons a t ih => simp [ih]
  simp [hfl, rk, z1h]
 ·
  have hj : j < 32 := by simpa using (List.getElem?_eq_some_iff.1 hx).1
  have ex : x = j := by
   obtain ⟨_, e⟩ := List.getElem?_eq_some_iff.1 hx
   simpa using e.symm
  subst ex
  have ey : y = [Lit.int .u8 (at8 r x)] := by
   rw [List.getElem?_map, hx] at hy
   simpa using hy.symm
  subst ey
  have hg : ((rc r).toList.drop (x * 1)).take 1 = [.int .u8 (at8 r x)] := by
   have hl : x < (rc r).toList.length := by simp [zay]; exact hj
   rw [Nat.mul_one, List.drop_eq_getElem_cons hl]
   simp [zqh]
  rw [hg]
  unfold Program.keyLits
  simp only [Tryz.underlying5]
  rw [if_pos ⟨trivial, wf8 r x⟩]
theorem yd4 {a b : Rt} (h : rk a = rk b) : a = b := by
 have := keyed_root.inj (zi4 a) (by rw [h]; exact zi4 b)
 injection this with e
 exact yd2 e
theorem zra (r : Rt) : WideAt.IsKeyLit (rk r) := keyed_root.key (zi4 r)
theorem zct {H : Type} {P : Program} {k : TypeId} {R : Value → Option (DataW H × List MemPlace)} {b n : Nat} {D : DataW H} {W w1 : World} (g : Below W.heap.size W w1) (h : W.ownsMap P k R b n D) : w1.ownsMap P k R b n D := by
 obtain ⟨es, clock, hb, F, hn, hD⟩ := h
 exact ⟨es, clock, (g.block _ (Array.getElem?_eq_some_iff.1 hb).1).trans hb, F, hn, hD⟩
end
section
open Go.Maps
open Go.RowKit Go.Maps
def iL (i : Nat) : DataW Unit := .lit (.int .i64 (i : Int))
def plD (l : List Nd) : Nat → DataW Unit
 | 0 => .map []
 | k + 1 => (plD l k).put (rk (nd l k).root) (iL k)
section
variable {l : List Nd}
theorem zjj (l : List Nd) : ∀ k, Tidy (plD l k)
 | 0 => tidy_empty
 | k + 1 => (zjj l k).put (zra _) _
theorem zn2 (l : List Nd) (r : Rt) : ∀ k, Maps.has (plD l k) (rk r) = true ↔ ∃ i, i < k ∧ (nd l i).root = r
 | 0 => ⟨fun h => (by cases h), fun ⟨_, h, _⟩ => absurd h (Nat.not_lt_zero _)⟩
 | k + 1 => by
  unfold plD
  by_cases e : (nd l k).root = r
  ·
   rw [e, has_put_same (zjj l k).isMap (zra r)]
   exact ⟨fun _ => ⟨k, Nat.lt_succ_self k, e⟩, fun _ => rfl⟩
  ·
   rw [has_put_other (fun h => e (yd4 h).symm), zn2 l r k]
   constructor
   ·
    rintro ⟨i, hi, h⟩; exact ⟨i, by omega, h⟩
   ·
    rintro ⟨i, hi, h⟩
    rcases Nat.lt_succ_iff_lt_or_eq.1 hi with h1 | rfl
    ·
     exact ⟨i, h1, h⟩
    ·
     exact absurd h e
theorem ybx {r : Rt} {k : Nat} (h : ∀ i, i < k → (nd l i).root ≠ r) : Maps.has (plD l k) (rk r) = false := by
 rw [← Bool.not_eq_true, zn2]
 rintro ⟨i, hi, e⟩
 exact h i hi e
theorem yd1 {r : Rt} {i : Nat} (z : DataW Unit) (hr : (nd l i).root = r) : ∀ k, i < k → (∀ j, i < j → j < k → (nd l j).root ≠ r) → (plD l k).atKey (rk r) z = iL i
 | 0, h, _ => absurd h (Nat.not_lt_zero _)
 | k + 1, h, hj => by
  unfold plD
  by_cases e : i = k
  ·
   subst e
   rw [hr]
   exact atKey_put_same (zjj l i).isMap (zra r) _ _
  ·
   rw [atKey_put_other (fun h2 => hj k (by omega) (Nat.lt_succ_self k) (yd4 h2).symm)]
   exact yd1 z hr k (by omega) fun j h1 h2 => hj j h1 (by omega)
theorem zn3 (l : List Nd) : ∀ k, Maps.size (plD l k) ≤ k
 | 0 => Nat.le_refl _
 | k + 1 => by
  have ih := zn3 l k
  unfold plD
  rw [size_put (zjj l k)]
  split <;> omega
theorem zzg (l : List Nd) : ∀ k, Maps.size (plD l k) = k ↔ ∀ i, i < k → ∀ j, j < i → (nd l j).root ≠ (nd l i).root
 | 0 => ⟨fun _ i h => absurd h (Nat.not_lt_zero _), fun _ => rfl⟩
 | k + 1 => by
  have ih := zzg l k
  have hle := zn3 l k
  unfold plD
  rw [size_put (zjj l k)]
  by_cases hh : Maps.has (plD l k) (rk (nd l k).root) = true
  ·
   rw [if_pos hh]
   obtain ⟨i, hi, e⟩ := (zn2 l _ k).1 hh
   exact ⟨fun h => by omega, fun h => absurd e (h k (Nat.lt_succ_self k) i hi)⟩
  ·
   rw [if_neg hh]
   constructor
   ·
    intro h i hi j hj
    rcases Nat.lt_succ_iff_lt_or_eq.1 hi with h1 | rfl
    ·
     exact ih.1 (by omega) i h1 j hj
    ·
     intro e
     exact hh ((zn2 l _ i).2 ⟨j, hj, e⟩)
   ·
    intro h
    have := ih.2 fun i hi j hj => h i (by omega) j hj
    omega
theorem ybv (h : MayT l) (r : Rt) : Maps.has (plD l l.length) (rk r) = decide (0 ≤ zaz l r) ∧ (0 ≤ zaz l r → (plD l l.length).atKey (rk r) (iL 0) = .lit (.int .i64 (zaz l r))) := by
 rcases zcs h r with ⟨i, hi, e, hr⟩ | ⟨e, hn⟩
 ·
  rw [e]
  refine ⟨?_, fun _ => yd1 _ hr _ hi fun j h1 h2 e2 => ?_⟩
  ·
   rw [(zn2 l r _).2 ⟨i, hi, hr⟩]
   exact (decide_eq_true (by omega)).symm
  ·
   have := h.roots hi h2 (hr.trans e2.symm)
   omega
 ·
  rw [e]
  exact ⟨by rw [ybx hn]; rfl, fun h => by omega⟩
end
end
end Go.Proofs.YtkalofboioffiaaGreat
