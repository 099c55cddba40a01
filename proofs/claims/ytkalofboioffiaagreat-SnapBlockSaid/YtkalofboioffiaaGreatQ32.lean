import Derived.Test.YtkalofboioffiaaGreatQ31
import Derived.Test.YtkalofboioffiaaGreatQ24
namespace Go.Proofs.YtkalofboioffiaaGreat
open Go.RowKit
set_option maxRecDepth 200000
set_option maxHeartbeats 64000000
open Go.RowKit
section
variable {P : Program} {ops : Array Oper} {E : List Nat} {W : World} {Q : Exit → Act → World → Prop} {L : World → World → Prop}
theorem z2e {k : Nat} {o : Oper} {rest : List Oper} {a : Act} {w : World} {σ : List (Nat × World)} (hE : E.contains k = true) (hw : Region.wanted o (yielded ops a.tmps) = true) (w' : World)
  (hrun : (execOp a.eval o).run P w = .ok .skip w') (hl : L w w') (h : wpXL L P ops E W Q (k + 1) rest (a.put o.dst undef) w' ((k, w') :: σ)) : wpXL L P ops E W Q k (o :: rest) a w σ := by
 unfold wpXL
 rw [if_pos hw, if_pos hE]
 unfold zd0
 rw [hrun]
 exact ⟨hl, h⟩
end
theorem yhp (s : SlV) (u vb vj : Value) (l : List Nd) (ls : List Lk) (bal : List UInt64) (js : List Ck) (fin : Ck) (w : World) (h : SlE Ene w (sv s) l) (h1 : SlE Elk w u ls) (h2 : SlE Enum w vb bal) (h3 : SlE Ecc w vj js) (hm : ls.length ≤ 1000) (hn : js.length ≤ 2000) :
  Calls Tryz.prog 129 #[.agg (tr ⟨s⟩), u, vb, vj, .agg (cc fin)] w fun e w' => e = .returned (.agg (cc (zgn l ls bal js fin))) ∧ Below w.heap.size w w' := by
 have HF := Lib.hid (fun W (g : Below w.heap.size w W) => z69 s u vb vj l ls bal js W (zad g h) (zad g h1) (zad g h2) (zad g h3) hm hn)
 have HBe := Lib.hid (fun v cs W (g : Below w.heap.size w W) (k : SlE Ecc W v cs) (hc : cs.length ≤ 2000) => z4d s v l cs fin W (zad g h) k hc)
 obtain ⟨r, hr⟩ : ∃ r, r = zgn l ls bal js fin := ⟨_, rfl⟩
 have HR : Hid (zjz l ((zcx l ls bal js).filter fun c => !zqw fin c) fin = r) := by show _ = _; rw [hr]; exact ybv
 have HFl : Hid ((zcx l ls bal js).length ≤ 2000) := by show _ ≤ _; rw [zps]; exact Nat.le_trans (List.length_filter_le _ _) hn
 rw [← hr]
 obtain ⟨fs, hfs⟩ : ∃ fs, fs = zcx l ls bal js := ⟨_, rfl⟩
 rw [← hfs] at HF HR HFl
 obtain ⟨W3, hW3⟩ : ∃ W3, W3 = ((w.alloc (.cells (tr ⟨s⟩) 24)).alloc (.cells (cc fin) 36)).alloc (.cells (cc zcc) 36) := ⟨_, rfl⟩
 obtain ⟨hB, k0, k1, k2, hz0⟩ := zft w _ _ _ _ _ _ W3 hW3
 have HB := Lib.hid hB
 have HW := Lib.hid hW3
 have K1 := Lib.hid k1
 have K2 := Lib.hid k2
 have HZ := Lib.hid hz0
 have z0 := (zaw k0).2.1
 have z1 := (ck_v k1).a
 clear hW3 hB k0 k1 k2 hz0 hr hfs h h1 h2 h3 hm hn
 go_enter Tryz.func129, Tryz.ntmps129
 go_upto_region 1 with fail
 rw [← HW.out]
 go_upto_region 2 with fail
 have L0 := fun q : WdB (w.heap.size + 2) W3.drew => z3r (show ldA W3.drew _ _ = _ from z0) (by omega) q
 have L1 := fun q : WdB (w.heap.size + 2) W3.drew => z3r (show ldA W3.drew _ _ = _ from z1) (by omega) q
 have G0 : Hid (Below w.heap.size w W3.drew) := zac HB.out (zak (Below.refl _ _) 1)
 have HZd : Hid (W3.drew.heap.size = W3.heap.size) := rfl
 have K1d : Hid (W3.drew.heap[w.heap.size + 1]? = some (.cells (cc fin) 36 (0, 0))) := K1.out
 have K2d : Hid (W3.drew.heap[w.heap.size + 2]? = some (.cells (cc zcc) 36 (0, 0))) := K2.out
 clear z0 z1
 refine zse (w.heap.size + 2) [5, 7, 9, 10] (by kernel_rfl) (by kernel_rfl) (by kernel_rfl) ?_
 repeat (refine zko rfl rfl ?_; (first | go_big_quiet_step (fail) | quiet_step (fail)); refine wpQuiet_nil ?_)
 refine zau rfl rfl rfl zmt #[.agg (tr ⟨s⟩), u, vb, vj] rfl ?_
 refine (HF.out _ G0.out).mono ?_
 rintro e w4 ⟨v4, rfl, ho, g⟩
 have HS3 : Hid (w.heap.size + 2 < W3.drew.heap.size) := (Array.getElem?_eq_some_iff.1 K2d.out).1
 refine ⟨_, rfl, g.mono (Nat.le_of_lt HS3.out), ?_⟩
 simp only [Act.put, List.setIfInBounds_toArray, List.set_cons_zero, List.set_cons_succ]
 have HO := Lib.hid ho
 have G4 := Lib.hid g
 clear ho g HF
 repeat (refine zko rfl rfl ?_; (first | go_big_quiet_step (fail) | quiet_step (fail)); refine wpQuiet_nil ?_)
 refine zau rfl rfl rfl zrw #[v4, .func (.func 158) #[] #[.pointer (some ⟨w.heap.size + 1, 0, none⟩)]] rfl ?_
 refine (ylb (w.heap.size + 1) W3.drew.heap.size v4 fin fs w4 HO.out HFl.out G4.out.size (by have := HS3.out; omega) (zab G4.out K1d.out)).mono ?_
 rintro e w5 ⟨v5, rfl, hs, g⟩
 refine ⟨_, rfl, g.mono (Nat.le_of_lt HS3.out), ?_⟩
 simp only [Act.put, List.setIfInBounds_toArray, List.set_cons_zero, List.set_cons_succ]
 have S := Lib.hid hs
 have G5 : Hid (Below W3.drew.heap.size W3.drew w5) := G4.out.trans g
 clear hs g HO G4
 repeat (refine zko rfl rfl ?_; (first | go_big_quiet_step (fail) | quiet_step (fail)); refine wpQuiet_nil ?_)
 refine zau rfl rfl rfl zpn #[.agg (tr ⟨s⟩), v5, .agg (cc fin)] rfl ?_
 refine (HBe.out v5 _ w5 (zac G0.out G5.out) S.out (Nat.le_trans (List.length_filter_le _ _) HFl.out)).mono ?_
 rintro e w6 ⟨rfl, g⟩
 rw [HR.out]
 have G6 : Hid (Below W3.drew.heap.size W3.drew w6) := zac G5.out g
 refine ⟨_, rfl, g.mono (by have := G5.out.size; have := HS3.out; omega), ?_⟩
 simp only [Act.put, List.setIfInBounds_toArray, List.set_cons_zero, List.set_cons_succ]
 have K6 : Hid (w6.heap[w.heap.size + 2]? = some (.cells (cc zcc) 36 (0, 0))) := zab G6.out K2d.out
 have z2 := za0 K6.out (za5 _)
 clear g
 refine z2e rfl rfl (stA w6 (.pointer (some ⟨w.heap.size + 2, 0, none⟩)) (.agg (cc r))) (by go_simp) (zap (Below.refl _ _) (Nat.le_refl _)) ?_
 simp only [Act.put]
 refine zbd ?_
 clear L0 L1 z2
 have G7 : Hid (Below w.heap.size w w6) := zac G0.out G6.out
 go_wp2_with fail
 exact bodyPost_ret (zax Tryz.isAgg36 Tryz.sizeOf36 _ 10 rfl _ _ _ _ rfl (zag (zp3 K6.out) (za5 _))) rfl ⟨rfl, zap G7.out (by omega)⟩
theorem z7i (x : En) (g : Eg) (w : World) (h : LaidG w x g) (sg : zcv g) :
  Calls Tryz.prog 44 #[.agg (en x)] w fun e w' => e = .returned (.bool (zkn g)) ∧ Below w.heap.size w w' := by
 obtain ⟨W0, hW0⟩ : ∃ W0, W0 = w.alloc (.cells (en x) 38) := ⟨_, rfl⟩
 have A : Hid (Gv w W0 w.heap.size x g) := by show Gv _ _ _ _ _; rw [hW0]; exact zpz h
 have HW := Lib.hid hW0
 have HD := Lib.hid (fun W hh => ymg (sv x.late) g.late g.now.toNat W hh sg.late)
 have HM := Lib.hid (fun W hh => ymh (sv x.late) g.late W hh)
 obtain ⟨N, hN⟩ : ∃ N, N = g.now.toNat := ⟨_, rfl⟩
 obtain ⟨D, hD⟩ : ∃ D, D = dueL g.late g.now.toNat := ⟨_, rfl⟩
 obtain ⟨nd, hnd⟩ : ∃ nd, nd = D.length := ⟨_, rfl⟩
 have HN := Lib.hid hnd
 obtain ⟨b1, hb1⟩ : ∃ b, b = decide (N ≤ 1099511627776) := ⟨_, rfl⟩
 obtain ⟨b2, hb2⟩ : ∃ b, b = mayA g.late := ⟨_, rfl⟩
 obtain ⟨b3, hb3⟩ : ∃ b, b = decide (nd = 0) := ⟨_, rfl⟩
 have HF : Hid (zkn g = ((b1 && b2) && b3)) := by
  show _ = _
  unfold zkn
  rw [hb1, hb2, hb3, hnd, hD, hN]
 rw [← hD, ← hN] at HD
 rw [← hb2] at HM
 have t1 : decide ((N : Int) ≤ 1099511627776) = b1 := by rw [hb1]; exact decide_eq_decide.2 (by omega)
 have t1' : decide (N ≤ 1099511627776) = b1 := hb1.symm
 have t3 : ((nd : Int) == 0) = b3 := by rw [hb3, Bool.eq_iff_iff, beq_iff_eq, decide_eq_true_iff]; omega
 have t3' : decide (nd = 0) = b3 := hb3.symm
 have zl := A.out.zl
 have zn := A.out.zn
 rw [← hN] at zn
 have HZn := Lib.hid zn
 obtain ⟨r, hr⟩ : ∃ r, r = zkn g := ⟨_, rfl⟩
 rw [← hr] at HF ⊢
 have HNn := Lib.hid hN
 clear hW0 h sg hD hnd hb1 hb2 hb3 hr hN HZn
 go_enter Tryz.func44, Tryz.ntmps44
 go_upto_region 1 with fail
 rw [← HW.out]
 go_wp2_with fail
 refine (HD.out _ A.out.l.late).mono ?_
 rintro e w1 ⟨v, u, rfl, hv, hu, gg⟩
 obtain ⟨pd, cd, rfl⟩ := yqw hv
 rw [← HN.out]
 replace A := Lib.hid (A.out.keep gg)
 clear gg hv hu zl zn HD
 have zl := A.out.zl
 have zn := A.out.zn
 rw [← HNn.out] at zn
 cases b1
 ·
  go_wp2_with fail
  go_ret
  exact ⟨by rw [HF.out]; first | done | rfl, A.out.g⟩
 ·
  go_wp2_with fail
  refine (HM.out _ A.out.l.late).mono ?_
  rintro e w2 ⟨rfl, gg⟩
  replace A := Lib.hid (A.out.keep gg)
  clear gg zl zn HM
  cases b2
  ·
   go_wp2_with fail
   go_ret
   exact ⟨by rw [HF.out]; first | done | rfl, A.out.g⟩
  ·
   go_wp2_with fail
   go_ret
   exact ⟨by rw [HF.out]; first | done | rfl, A.out.g⟩
theorem zmv : ∀ args w, (callFunc 129 args).run Tryz.prog w = .ok (.enter 129 args) w := zbe Tryz.func129 (by kernel_rfl) (by kernel_rfl)
theorem yhm (x : En) (g : Eg) (w : World) (h : LaidG w x g) (sg : zcv g) :
  Calls Tryz.prog 93 #[.agg (en x)] w fun e w' => e = .returned (.bool (z0h g)) ∧ Below w.heap.size w w' := by
 obtain ⟨W0, hW0⟩ : ∃ W0, W0 = w.alloc (.cells (en x) 38) := ⟨_, rfl⟩
 have A : Hid (Gv w W0 w.heap.size x g) := by show Gv _ _ _ _ _; rw [hW0]; exact zpz h
 have HW := Lib.hid hW0
 have HM := Lib.hid (fun W (l : LaidG W x g) => yho x.t.n (sv x.k) (sv x.bal) (sv x.j) g.t g.k g.bal g.j W l.t l.k l.bal l.j (Nat.le_trans sg.j (by decide)) sg.k)
 obtain ⟨M, hM⟩ : ∃ M, M = zc5 g.t g.k g.bal g.j := ⟨_, rfl⟩
 obtain ⟨X, hX⟩ : ∃ X, X = zgn g.t g.k g.bal g.j g.fin := ⟨_, rfl⟩
 obtain ⟨nm, hnm⟩ : ∃ nm, nm = M.length := ⟨_, rfl⟩
 have HN := Lib.hid hnm
 have HMd := Lib.hid hM
 obtain ⟨⟨pj, nj, cj⟩, hsj⟩ : ∃ s : SlV, s = x.j := ⟨_, rfl⟩
 have HSj := Lib.hid hsj
 have HX := Lib.hid (fun W (l : LaidG W x g) => yhp x.t.n (sv x.k) (sv x.bal) (.slice pj nj cj) g.t g.k g.bal g.j g.fin W l.t l.k l.bal (by rw [← za7, hsj]; exact l.j) sg.k (Nat.le_trans sg.j (by decide)))
 have HLj : Hid (g.j.length = nj) := by
  obtain ⟨p', c', e, _⟩ := zar h.j
  rw [← hsj] at e
  unfold sv at e; injection e with _ e; exact e.symm
 obtain ⟨b1, hb1⟩ : ∃ b, b = decide (nm = nj) := ⟨_, rfl⟩
 obtain ⟨b2, hb2⟩ : ∃ b, b = decide (X = g.fin) := ⟨_, rfl⟩
 have HF : Hid (z0h g = (b1 && b2)) := by
  show _ = _
  unfold z0h
  rw [hb1, hb2, hnm, hM, hX, HLj.out]
 rw [← hX] at HX
 have t1 : ((nm : Int) == (nj : Int)) = b1 := by rw [hb1, Bool.eq_iff_iff, beq_iff_eq, decide_eq_true_iff]; omega
 have t1' : decide (nm = nj) = b1 := hb1.symm
 have t2 : decide (X = g.fin) = b2 := hb2.symm
 obtain ⟨r, hr⟩ : ∃ r, r = z0h g := ⟨_, rfl⟩
 rw [← hr] at HF ⊢
 clear hW0 h sg hM hX hnm hsj hb1 hb2 hr
 go_enter Tryz.func93, Tryz.ntmps93
 go_upto_region 1 with fail
 rw [← HW.out]
 have zT := A.out.zT
 have zk := A.out.zk
 have zb := A.out.zb
 have zj := A.out.zj
 go_wp2_with fail
 refine (HM.out _ A.out.l).mono ?_
 rintro e w1 ⟨v, rfl, hv, gg⟩
 rw [← HMd.out] at hv
 obtain ⟨pd, cd, rfl⟩ := yqw (zat hv)
 rw [← HN.out]
 replace A := Lib.hid (A.out.keep gg)
 clear gg hv zT zk zb zj HM
 go_upto_region 2 with fail
 cases b1
 ·
  have Q6 := fun q : Wd w1.drew => zay (show w1.cell? ⟨w.heap.size, 7, none⟩ = some (.slice pj nj cj) from by rw [← za7, HSj.out]; exact A.out.zj) q
  refine zan [] (by kernel_rfl) (by kernel_rfl) (by kernel_rfl) ?_
  repeat (first | (refine zae rfl rfl _ zaf ?_; (first | go_big_quiet_step (fail) | quiet_step (fail)); refine wpQuiet_nil ?_) | refine zah rfl ?_)
  refine zbd ?_
  clear Q6
  go_wp2_with fail
  go_ret
  exact ⟨by rw [HF.out]; first | done | rfl, zak A.out.g _⟩
 ·
  have Q1 := fun q : Wd w1.drew => za8 A.out.zT (by decide) q
  have Q2 := fun q : Wd w1.drew => zay A.out.zk q
  have Q3 := fun q : Wd w1.drew => zay A.out.zb q
  have Q4 := fun q : Wd w1.drew => zay (show w1.cell? ⟨w.heap.size, 7, none⟩ = some (.slice pj nj cj) from by rw [← za7, HSj.out]; exact A.out.zj) q
  have Q5 := fun q : Wd w1.drew => za8 A.out.zf (by decide) q
  refine zan [17] (by kernel_rfl) (by kernel_rfl) (by kernel_rfl) ?_
  repeat (refine zae rfl rfl _ zaf ?_; (first | go_big_quiet_step (fail) | quiet_step (fail)); refine wpQuiet_nil ?_)
  refine zau rfl rfl rfl zmv #[.agg (tr ⟨x.t.n⟩), sv x.k, sv x.bal, .slice pj nj cj, .agg (cc g.fin)] rfl ?_
  refine (HX.out _ (A.out.l.keep (zak (Below.refl _ _) 1))).mono ?_
  rintro e w2 ⟨rfl, gg⟩
  refine ⟨_, rfl, gg, ?_⟩
  simp only [Act.put, List.setIfInBounds_toArray, List.set_cons_zero, List.set_cons_succ]
  have G2 : Hid (Below w.heap.size w w2) := zac A.out.g (zac (zak (Below.refl _ _) 1) gg)
  clear gg
  repeat (refine zae rfl rfl _ zaf ?_; (first | go_big_quiet_step (fail) | quiet_step (fail)); refine wpQuiet_nil ?_)
  refine zbd ?_
  clear Q1 Q2 Q3 Q4 Q5
  go_wp2_with fail
  go_ret
  exact ⟨by rw [HF.out]; first | done | rfl, G2.out⟩
section
open Go.Maps
theorem znw : ∀ l, Maps.size (setC l) ≤ l.length
 | [] => Nat.le_refl _
 | c :: l => by
  have ih := znw l
  unfold setC
  rw [size_put (zlz l), List.length_cons]
  split <;> omega
theorem zzc : ∀ l, Maps.size (setC l) = l.length ↔ l.Nodup
 | [] => ⟨fun _ => List.nodup_nil, fun _ => rfl⟩
 | c :: l => by
  have ih := zzc l
  have hle := znw l
  unfold setC
  rw [size_put (zlz l), zov, List.length_cons, List.nodup_cons]
  by_cases e : c ∈ l
  ·
   rw [decide_eq_true e, if_pos rfl]
   exact ⟨fun h => by omega, fun h => absurd e h.1⟩
  ·
   rw [decide_eq_false e, if_neg (by decide)]
   exact ⟨fun h => ⟨e, ih.1 (by omega)⟩, fun h => by rw [ih.2 h.2]⟩
def mC (l : List Ck) (k : Nat) : DataW Unit := setC (l.take k).reverse
theorem ymu {l : List Ck} {k : Nat} (h : k < l.length) : mC l (k + 1) = (mC l k).put (ck (ckAt l k)) (.agg []) := by
 unfold mC
 rw [List.take_succ_eq_append_getElem h, List.reverse_append, zh8 h]
 rfl
theorem yp8 (l : List Ck) (c : Ck) : Maps.has (mC l l.length) (ck c) = decide (c ∈ l) := by
 unfold mC
 rw [zov, List.take_length]
 exact decide_eq_decide.2 List.mem_reverse
theorem ybx (l : List Ck) : l.reverse.Nodup ↔ l.Nodup := by
 rw [List.nodup_iff_pairwise_ne, List.nodup_iff_pairwise_ne, List.pairwise_reverse]
 exact ⟨fun h => h.imp Ne.symm, fun h => h.imp Ne.symm⟩
theorem ymt (l : List Ck) : decide (Maps.size (mC l l.length) = l.length) = decide l.Nodup := by
 have := zzc (l.take l.length).reverse
 rw [List.take_length, List.length_reverse, ybx] at this
 unfold mC
 rw [List.take_length]
 exact decide_eq_decide.2 this
theorem zy8 {P : Program} {T k e : TypeId} (hu : P.underlying T = some (.map k e)) (n : Int) (w : World) : (Instr.makeMap T (some (.int .i64 n))).run P w = .ok (.map (some w.heap.size)) (w.alloc (.map #[] 0)) := by
 simp only [Instr.makeMap]
 simp [run_underlying hu, asInt]
 rfl
theorem zxp {a w w' : World} {B : Nat} {row : Option Nat} (h : Below B a w) (hB : B ≤ w.heap.size) (k : w.grownBy w' row) (hr : ∀ b, row = some b → B ≤ b) : Below B a w' := h.grown k hB hr
theorem z7b (x : En) (g : Eg) (n : Nat) (w : World) (h : LaidG w x g) (sg : zcv g) (hl : g.j.length = n) :
  Calls Tryz.prog 46 #[.agg (en x)] w fun e w' => e = .returned (.bool (zim g)) ∧ Below w.heap.size w w' := by
 obtain ⟨W0, hW0⟩ : ∃ W0, W0 = w.alloc (.cells (en x) 38) := ⟨_, rfl⟩
 have A : Hid (Gv w W0 w.heap.size x g) := by show Gv _ _ _ _ _; rw [hW0]; exact zpz h
 have HW := Lib.hid hW0
 have HL := Lib.hid hl
 have HN : Hid (n ≤ 1000) := by show n ≤ 1000; rw [← hl]; exact sg.j
 obtain ⟨⟨pj, nj, cj⟩, hsj⟩ : ∃ s : SlV, s = x.j := ⟨_, rfl⟩
 have hnj : n = nj := by
  obtain ⟨p', c', e, _⟩ := zar h.j
  rw [← hsj] at e
  unfold sv at e; injection e with _ e
  rw [← hl]; exact e.symm
 subst hnj
 have HSj := Lib.hid hsj
 have HK : Hid (SlE Ecc w (.slice pj n cj) g.j) := by have := h.j; rw [← hsj] at this; exact this
 have HD := Lib.hid (fun W (l : LaidG W x g) => yhm x g W l sg)
 obtain ⟨b1, hb1⟩ : ∃ b, b = decide (g.fin ∈ g.j) := ⟨_, rfl⟩
 obtain ⟨b2, hb2⟩ : ∃ b, b = decide g.j.Nodup := ⟨_, rfl⟩
 obtain ⟨b3, hb3⟩ : ∃ b, b = z0h g := ⟨_, rfl⟩
 have HF : Hid (zim g = ((b1 && b2) && b3)) := by
  show _ = _
  unfold zim
  rw [hb1, hb2, hb3]
 rw [← hb3] at HD
 have HB1 : Hid (Maps.has (mC g.j n) (ck g.fin) = b1) := by show _ = _; rw [hb1, ← hl]; exact yp8 _ _
 have HB2 : Hid (decide (Maps.size (mC g.j n) = n) = b2) := by show _ = _; rw [hb2, ← hl]; exact ymt _
 obtain ⟨r, hr⟩ : ∃ r, r = zim g := ⟨_, rfl⟩
 rw [← hr] at HF ⊢
 clear hW0 h sg hl hb1 hb2 hb3 hr hsj
 have y0 : W0.cell? ⟨w.heap.size, 7, none⟩ = some (.slice pj n cj) := by rw [← za7, HSj.out]; exact A.out.zj
 have mk := fun (i : Int) (W : World) => zy8 (P := Tryz.prog) Tryz.underlying134 i W
 go_enter Tryz.func46, Tryz.ntmps46
 go_upto_region 1 with fail
 rw [← HW.out]
 go_upto_region 2 with fail
 obtain ⟨W1, hW1⟩ : ∃ W1, W1 = W0.alloc (.map #[] 0) := ⟨_, rfl⟩
 rw [← hW1]
 have g1 : Below W0.heap.size W0 W1 := by rw [hW1]; exact below1
 have HO1 : Hid (W1.ownsMap Tryz.prog 36 (unitElem (H := Unit)) W0.heap.size 0 (mC g.j 0)) := by show World.ownsMap _ _ _ _ _ _ _; rw [hW1]; exact World.ownsMap_made _ _ _ _
 have HZ1 : Hid (W0.heap.size + 1 ≤ W1.heap.size) := by show _ ≤ _; rw [hW1]; simp
 have G1 := Lib.hid g1
 have A1 := Lib.hid (A.out.keep g1)
 obtain ⟨B, hB⟩ : ∃ B, B = W0.heap.size := ⟨_, rfl⟩
 have HBd := Lib.hid hB
 rw [← hB] at HO1 HZ1 G1 ⊢
 clear hW1 g1 y0 hB mk
 have y0 : W1.cell? ⟨w.heap.size, 7, none⟩ = some (.slice pj n cj) := by rw [← za7, HSj.out]; exact A1.out.zj
 go_wp2_with fail
 clear y0
 go_loopw [15] (fun i wr => ∃ k : Nat, k ≤ n ∧ i = .int .i64 (k : Int) ∧ wr.ownsMap Tryz.prog 36 (unitElem (H := Unit)) B k (mC g.j k) ∧ Below B W0 wr ∧ B + 1 ≤ wr.heap.size) (fun i _ => n - (intOf i).toNat)
 case atStart => exact ⟨0, Nat.zero_le _, rfl, HO1.out, G1.out, HZ1.out⟩
 case round =>
  obtain ⟨k, hk, rfl, ho, hb, hz⟩ := hrel
  have HO := Lib.hid ho
  have HG := Lib.hid hb
  have HZ := Lib.hid hz
  clear ho hb hz
  have A2 : Hid (Gv w wr w.heap.size x g) := by
   have := HG.out
   rw [HBd.out] at this
   exact A.out.keep this
  by_cases hlt : k < n
  ·
   have HKl := Lib.hid hlt
   have i0 : (0 : Int) ≤ (k : Int) := by omega
   have i1 : (k : Int) < (n : Int) := by omega
   have u1 : (k : Int) + 1 < 10000 := by have := HN.out; omega
   have HS2 := zad A2.out.g HK.out
   obtain ⟨bq, oq, rfl, q1, x1⟩ := zj4 HS2 (by rw [HL.out]; omega)
   have y1 := zpc x1 (i := k) (by rw [HL.out]; exact hlt)
   have HTk := Lib.hid (ymu (l := g.j) (k := k) (by rw [HL.out]; exact hlt))
   obtain ⟨m, hm⟩ : ∃ m, m = ckAt g.j k := ⟨_, rfl⟩
   rw [← hm] at y1 HTk
   clear hlt HS2 q1 x1 hm
   go_upto_region 5 with fail
   obtain ⟨V, hV⟩ : ∃ V, V = wr.alloc (.cells (cc m) 36) := ⟨_, rfl⟩
   rw [← hV]
   have g5 : Below wr.heap.size wr V := by rw [hV]; exact below1
   have z1 := zag (show V.heap[wr.heap.size]? = some (.cells (cc m) 36 (0, 0)) from by rw [hV]; exact heap_alloc_last wr _) (za5 m)
   have HO2 := Lib.hid (zci g5 HO.out)
   have HG2 : Hid (Below B W0 V) := HG.out.trans (g5.mono (by have := HZ.out; omega))
   have HZ2 : Hid (B + 1 ≤ V.heap.size) := Nat.le_trans HZ.out g5.size
   clear hV g5 y1
   go_wp2_with (at_mapUpdate; refine wpList_mapUpdate_own _ rfl _ _ _ 134 rfl 36 135 keyed_cc Tryz.underlying134 (unitElem (H := Unit)) B k _ rfl HO2.out (by unfold maxLen; have := HN.out; have := HKl.out; omega) _ _ _ rfl rfl (zlg m) _ [] unitElem_mk ?_; intro w4 hown1 hgrow1)
   clear z1
   have HO4 : Hid (w4.ownsMap Tryz.prog 36 (unitElem (H := Unit)) B (k + 1) (mC g.j (k + 1))) := by show World.ownsMap _ _ _ _ _ _ _; rw [HTk.out]; exact hown1
   have HG4 : Hid (Below B W0 w4) := zxp HG2.out (by have := HZ2.out; omega) hgrow1 (fun b hb => by injection hb with hb; omega)
   have HZ4 : Hid (B + 1 ≤ w4.heap.size) := Nat.le_trans HZ2.out hgrow1.size
   clear hown1 hgrow1
   go_roundw
   case rel => exact ⟨k + 1, HKl.out, by go_num, HO4.out, HG4.out, HZ4.out⟩
   case measure => simp [intOf]; have := HKl.out; omega
  ·
   obtain rfl : k = n := by omega
   clear hlt
   obtain ⟨D, hD⟩ : ∃ D, D = mC g.j k := ⟨_, rfl⟩
   rw [← hD] at HO HB1 HB2
   have z1 := A2.out.zf
   have HZd : Hid (∃ z, z = Maps.size D) := ⟨_, rfl⟩
   clear hD
   cases b1
   ·
    have t1 : Maps.has D (ck g.fin) = false := HB1.out
    go_wp2_with (at_lookup; refine wpList_lookup_own_unit _ rfl _ _ 134 rfl 36 135 keyed_cc Tryz.underlying134 (zme _) B k D rfl HO.out _ _ rfl (zlg g.fin) ?_)
    go_ret
    exact ⟨by rw [HF.out]; first | done | rfl, zac A2.out.g below1⟩
   ·
    have t1 : Maps.has D (ck g.fin) = true := HB1.out
    obtain ⟨z, hz⟩ := HZd.out
    have Le : ∀ ty, (Builtin.len_ #[134] ty #[.map (some B)]).run Tryz.prog (wr.alloc (.cells #[] 135)) = .ok (.int .i64 (z : Int)) (wr.alloc (.cells #[] 135)) := fun ty => by rw [hz]; exact (HO.out.alloc _).len Tryz.underlying134 ty
    have t2 : ((z : Int) == (k : Int)) = b2 := by rw [← HB2.out, ← hz, Bool.eq_iff_iff, beq_iff_eq, decide_eq_true_iff]; omega
    have t2' : decide (z = k) = b2 := by rw [← HB2.out, ← hz]
    have A3 : Hid (Gv w (wr.alloc (.cells #[] 135)) w.heap.size x g) := A2.out.keep below1
    have y3 : (wr.alloc (.cells #[] 135)).cell? ⟨w.heap.size, 7, none⟩ = some (.slice pj k cj) := by rw [← za7, HSj.out]; exact A3.out.zj
    have y4 := A3.out.z
    clear hz HZd
    cases b2
    ·
     go_wp2_with (at_lookup; refine wpList_lookup_own_unit _ rfl _ _ 134 rfl 36 135 keyed_cc Tryz.underlying134 (zme _) B k D rfl HO.out _ _ rfl (zlg g.fin) ?_)
     go_ret
     exact ⟨by rw [HF.out]; first | done | rfl, A3.out.g⟩
    ·
     go_wp2_with (at_lookup; refine wpList_lookup_own_unit _ rfl _ _ 134 rfl 36 135 keyed_cc Tryz.underlying134 (zme _) B k D rfl HO.out _ _ rfl (zlg g.fin) ?_)
     refine (HD.out _ A3.out.l).mono ?_
     rintro e w5 ⟨rfl, gg⟩
     have G5 := Lib.hid (zac A3.out.g gg)
     clear gg y3 y4 z1 Le
     go_wp2_with fail
     go_ret
     exact ⟨by rw [HF.out]; first | done | rfl, G5.out⟩
theorem yhn (x : En) (g : Eg) (w : World) (h : LaidG w x g) (sg : zcv g) :
  Calls Tryz.prog 46 #[.agg (en x)] w fun e w' => e = .returned (.bool (zim g)) ∧ Below w.heap.size w w' := z7b x g _ w h sg rfl
end
theorem znq (z c : Array Value) (o : Nat) (h : o + c.size ≤ z.size) (j : Nat) : (c.zipIdx.foldl (fun cs (p : Value × Nat) => cs.setIfInBounds (o + p.2) p.1) z)[j]? = if o ≤ j ∧ j < o + c.size then c[j - o]? else z[j]? := by
 have e : c.zipIdx.foldl (fun cs (p : Value × Nat) => cs.setIfInBounds (o + p.2) p.1) z = ((c.toList.zipIdx o).foldl (fun c p => c.setIfInBounds p.2 p.1) z) := by
  rw [← Array.foldl_toList, Array.toList_zipIdx, List.zipIdx_eq_map_add (l := c.toList) (i := o), List.foldl_map]
 rw [e, zih]
 by_cases hj : o ≤ j ∧ j < o + c.size
 ·
  rw [if_pos (by simp; omega), if_pos hj]; simp
 ·
  rw [if_neg (by simp; omega), if_neg hj]
theorem zs6 (c : Array Value) (o : Nat) (z : Array Value) : (c.zipIdx.foldl (fun cs (p : Value × Nat) => cs.setIfInBounds (o + p.2) p.1) z).size = z.size := by
 rw [← Array.foldl_toList]
 generalize c.zipIdx.toList = l
 induction l generalizing z with
 | nil => rfl
 | cons a l ih => rw [List.foldl_cons, ih]; simp
theorem ysv (n : Nat) (z c d : Array Value) (hz : z.size = 2 * n) (hc : c.size = n) (hd : d.size = n) :
  d.zipIdx.foldl (fun cs (p : Value × Nat) => cs.setIfInBounds (n + p.2) p.1) (c.zipIdx.foldl (fun cs (p : Value × Nat) => cs.setIfInBounds (0 + p.2) p.1) z) = c ++ d := by
 apply Array.ext_getElem?
 intro j
 rw [znq _ d n (by rw [zs6]; omega), znq _ c 0 (by omega), Array.getElem?_append]
 by_cases h1 : n ≤ j ∧ j < n + d.size
 ·
  rw [if_pos h1, if_neg (by omega), hc]
 ·
  rw [if_neg h1]
  by_cases h2 : j < c.size
  ·
   rw [if_pos (by omega), if_pos h2, Nat.sub_zero]
  ·
   rw [if_neg (by omega), if_neg h2, Array.getElem?_eq_none (by omega), Array.getElem?_eq_none (by omega)]
theorem yb6 {x : Value} {n : Nat} (hx : okA n x = true) : ∃ c, x = .agg c ∧ c.size = n := by
 unfold okA at hx
 split at hx
 ·
  rename_i c
  rw [Bool.and_eq_true, beq_iff_eq] at hx
  exact ⟨c, rfl, hx.1⟩
 ·
  cases hx
@[go_sem ↓] theorem yei (ρ : Operand → Value) (dst : Option Tmp) (x y : Operand) (ty : TypeId) (pos : String) (after : Array Edge) (guard : Option (Nat × Bool)) (w : World) (hx : okA 32 (ρ x) = true) (hy : okA 32 (ρ y) = true) :
  (execOp ρ { dst, op := .buildSlice 130 2 #[(0, x), (1, y)], type := ty, pos, after, guard }).run Tryz.prog w = .ok (.value (.slice (some ⟨w.heap.size, 0, none⟩) 2 2)) (w.alloc (.cells (zf8 (ρ x) ++ zf8 (ρ y)) 34)) := by
 obtain ⟨c, hc, hn⟩ := yb6 hx
 obtain ⟨d, hd, hm⟩ := yb6 hy
 have hp : (2 * 32 > 2 ^ 24) = False := by simp
 have h0 : (2 * 32 = 0) = False := by simp
 unfold execOp
 simp only [Instr.buildSlice, Sem.run_bind, run_underlying Tryz.underlying130, Result.andThen_ok, Tryz.sizeOf34, hp, h0, if_false, zi3, Value.cells]
 simp only [List.map_toArray, List.map_cons, List.map_nil, hc, hd, Instr.fill, Value.cells, hn, hm]
 simp only [Sem.run_pure, Result.andThen_ok]
 generalize hz : (Array.range (2 * 32)).map (fun x => (rc zr)[x % (rc zr).size]!) = z
 have hzs : z.size = 2 * 32 := by rw [← hz]; simp
 have h1 := zs6 c 0 z
 have h2 := ysv 32 z c d hzs hn hm
 simp only [Nat.zero_mul, Nat.one_mul, h1, h2, hzs]
 simp [zf8]
 rfl
theorem ynr (w : World) (x y : Rt) (b : Nat) (hb : b = w.heap.size) : SlE Ert (w.alloc (.cells (rc x ++ rc y) 34)) (.slice (some ⟨b, 0, none⟩) 2 2) [x, y] :=
 zej w _ 2 _ _ b rfl hb (by simp [zaq, Ert])
theorem zlh {w : World} {p : Option Addr} {n cp : Nat} {l : List Lt} (h : SlE Elt w (.slice p n cp) l) (h0 : 0 < l.length) : ∃ b o, p = some ⟨b, o, none⟩ ∧ b < w.heap.size ∧ w.rangeAt b o (zaq Elt l) := by
 obtain ⟨b, o, c, e, _, q, x⟩ := zdm h h0
 injection e with e1 e2 e3
 exact ⟨b, o, e1, q, x⟩
theorem zqa {w : World} {b off : Nat} {l : List Lt} (h : w.rangeAt b off (zaq Elt l)) {i : Nat} (hi : i < l.length) : ldA w (.pointer (some ⟨b, off + i * 34, none⟩)) 34 = some (lt (lat l i)) := by
 have := zqb h hi
 rw [zp9 hi]
 exact this.trans (by rw [show (Elt.enc l[i]).toArray = lt l[i] from Array.toList_inj.1 (by rw [zvi]; rfl)])
theorem zgg {w : World} {g : Nat} {x : Lt} (h : w.heap[g]? = some (.cells (lt x) 115 (0, 0))) : w.cell? ⟨g, 0, none⟩ = some (.bool x.has) ∧ ldA w (.pointer (some ⟨g, 1, none⟩)) 32 = some (rc x.root) ∧ w.cell? ⟨g, 33, none⟩ = some (.int .u64 (x.epoch.toNat : Int)) ∧ ldA w (.pointer (some ⟨g, 0, none⟩)) 34 = some (lt x) ∧ g < w.heap.size :=
 ⟨ztb h, zqi h, zya h, zag h (zqj x), (Array.getElem?_eq_some_iff.1 h).1⟩
theorem zb5 {w : World} {g : Nat} {x : Vo} (h : w.heap[g]? = some (.cells (vo x) 29 (0, 0))) : w.cell? ⟨g, 0, none⟩ = some (sv x.l) ∧ w.cell? ⟨g, 1, none⟩ = some (.int .u64 (x.out.toNat : Int)) ∧ ldA w (.pointer (some ⟨g, 0, none⟩)) 2 = some (vo x) ∧ g < w.heap.size :=
 ⟨yiw h, z8g h, zag h (zbv x), (Array.getElem?_eq_some_iff.1 h).1⟩
theorem znd {w : World} {s : SlV} {l : List Lt} (h : SlE Elt w (sv s) l) : l.length = s.len := by
 obtain ⟨p', cap', e, _⟩ := zar h
 unfold sv at e; injection e with _ e; exact e.symm
theorem ycc {w : World} {base : Nat} {v : Value} {b : List Lt} {n : Nat} (h : OwnE Elt w base v b) (hn : b.length = n) (h0 : 0 < n) : ∃ g cap, v = .slice (some ⟨g, 0, none⟩) n cap ∧ base ≤ g := by
 subst hn
 rcases h.2 with ⟨_, e⟩ | ⟨g, cap, cur, e, hb, _⟩
 ·
  omega
 ·
  exact ⟨g, cap, e, hb⟩
def VoOk (v : Vt) (b : Bool) (w : World) (e : Ending) (w' : World) : Prop := ∃ s : SlV, e = .returned (.tuple #[.agg (vo ⟨s, v.out⟩), .bool b]) ∧ SlE Elt w' (sv s) v.l ∧ Below w.heap.size w w'
end Go.Proofs.YtkalofboioffiaaGreat
