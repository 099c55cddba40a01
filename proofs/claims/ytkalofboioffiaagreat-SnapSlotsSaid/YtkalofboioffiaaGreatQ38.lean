import Derived.Test.YtkalofboioffiaaGreatQ37
namespace Go.Proofs.YtkalofboioffiaaGreat
open Go.RowKit
set_option maxRecDepth 200000
set_option maxHeartbeats 64000000
theorem zy1 {c r : Array Value} (h : r.size = c.size) : za2 c 0 r = r := by
 apply Array.toList_inj.1
 unfold za2
 simp only [List.take_zero, List.nil_append, Nat.zero_add]
 rw [List.drop_of_length_le (by rw [Array.length_toList]; omega), List.append_nil]
theorem yhq (x : En) (g : Eg) (ver : Int) (w : World) (h : LaidG w x g) (sg : zcv g) :
  Calls Tryz.prog 12 #[.agg (en x), .int .i64 ver] w (SnIs (ofE g ver) w) := by
 obtain ⟨W0, hW0⟩ : ∃ W0, W0 = (w.alloc (.cells (en x) 38)).alloc (.cells (sn zsn) 40) := ⟨_, rfl⟩
 obtain ⟨hB, q0, q1, _⟩ := zdb w _ _ _ _ W0 hW0
 have A : Hid (Gv w W0 w.heap.size x g) := ⟨q0, h.keep hB, hB⟩
 have MR : Hid (W0.heap[w.heap.size + 1]? = some (.cells (sn zsn) 40 (0, 0))) := q1
 have HW := Lib.hid hW0
 have HM := Lib.hid (fun W hh => zg0 x g W hh sg)
 have HBe : Hid (∀ W, LaidG W x g → Calls Tryz.prog 29 #[.agg (tr ⟨x.t.n⟩), sv x.j, .agg (cc g.fin)] W fun e w' => e = .returned (.agg (cc (zd9 g))) ∧ Below W.heap.size W w') := fun W hh => z4d x.t.n (sv x.j) g.t g.j g.fin W hh.t hh.j (Nat.le_trans sg.j (by decide))
 have HHd := Lib.hid (fun W hh => z7a x g W hh)
 have HCl := Lib.hid (fun W (hh : LaidG W x g) => zua x.t.n g.t W hh.t (by have := sg.t; omega))
 obtain ⟨m, hm⟩ : ∃ m, m = mayG g := ⟨_, rfl⟩
 rw [← hm] at HM
 obtain ⟨S, hS⟩ : ∃ S, S = ofE g ver := ⟨_, rfl⟩
 rw [← hS]
 have HS := Lib.hid hS
 have HMy := Lib.hid hm.symm
 obtain ⟨⟨pt, nt, ct⟩, hst⟩ : ∃ s : SlV, s = x.t.n := ⟨_, rfl⟩
 have HSt := Lib.hid hst
 have HNt : Hid (g.t.length = nt) := by have := zek h.t; rw [← hst] at this; exact this
 clear hW0 hB q0 q1 h sg hm hS hst
 go_enter Tryz.func12, Tryz.ntmps12
 go_upto_region 1 with fail
 rw [← HW.out]
 have z := A.out.z
 go_wp2_with fail
 refine (HM.out _ A.out.l).mono ?_
 rintro e w1 ⟨rfl, g⟩
 replace A := Lib.hid (A.out.keep g)
 replace MR := Lib.hid (zab g MR.out)
 clear g z HM HW
 cases m
 ·
  obtain rfl : S = zSg := by rw [HS.out]; unfold ofE; rw [if_neg (by rw [HMy.out]; exact Bool.false_ne_true)]
  have yw := za0 MR.out (ze2 _)
  go_wp2_with fail
  exact bodyPost_ret (zax Tryz.isAgg40 Tryz.sizeOf40 _ 4 rfl _ _ _ _ rfl (zbh MR.out (ze2 _) (ze2 _))) rfl ⟨zsn, rfl, ⟨(by first | exact zbr _ _ _ _ | (unfold sv; exact zbr _ _ _ _)), rfl, rfl, rfl, rfl⟩, zap A.out.g (by omega)⟩
 ·
  have MS := Lib.hid (zhx.1 HMy.out)
  obtain ⟨i, k, mm, hi, hk, hmm, f1, f2, r2, r1, a1, a2, g1, g2, g3⟩ := zuz MS.out
  have HMm := Lib.hid hmm
  have HE : Hid (S = ⟨ver, g.t, (nd g.t mm).root, zd9 g, g.fin⟩) := by show _ = _; rw [HS.out, zgo MS.out, g2]; rfl
  rw [g2] at HHd
  obtain ⟨J, hJ⟩ : ∃ J, J = zd9 g := ⟨_, rfl⟩
  rw [← hJ] at HBe HHd HE
  clear hi hk hmm f1 f2 r2 r1 a1 a2 g1 g2 g3 hJ HS
  have zT := A.out.zT
  have zj := A.out.zj
  have zf := A.out.zf
  go_wp2_with fail
  refine (HBe.out _ A.out.l).mono ?_
  rintro e w2 ⟨rfl, gg⟩
  have QJ : Hid ((w2.alloc (.cells (cc J) 36)).heap[w2.heap.size]? = some (.cells (cc J) 36 (0, 0))) := heap_alloc_last w2 _
  replace A := Lib.hid (A.out.keep (zac gg (below1 (o := .cells (cc J) 36))))
  replace MR := Lib.hid (zab (zac gg (below1 (o := .cells (cc J) 36))) MR.out)
  clear gg zT zj zf HBe
  go_upto_region 4 with fail
  obtain ⟨w5, hw5⟩ : ∃ w5, w5 = w2.alloc (.cells (cc J) 36) := ⟨_, rfl⟩
  rw [← hw5] at A MR QJ ⊢
  clear hw5
  have zt := A.out.zt
  have z := A.out.z
  have zf := A.out.zf
  have zJ := zag QJ.out (za5 _)
  have hs := A.out.l.t
  rw [← HSt.out, za7] at hs
  obtain ⟨bq, oq, hpq, _, qq⟩ := zda hs (by have := HMm.out; omega)
  subst hpq
  have yq := zoq qq (i := mm) HMm.out
  have q4 := HMm.out
  rw [HNt.out] at q4
  have i0 : (0 : Int) ≤ (mm : Int) := by omega
  have i1 : (mm : Int) < (nt : Int) := by omega
  have HLt : Hid (w.heap.size + 1 < w5.heap.size) := (Array.getElem?_eq_some_iff.1 MR.out).1
  have hwB : w.heap.size + 1 ≤ w5.drew.heap.size := Nat.le_of_lt HLt.out
  have HSt2 : Hid (sv x.t.n = .slice (some ⟨bq, oq, none⟩) nt ct) := by show _ = _; rw [← HSt.out, za7]
  clear hs qq q4
  have HCl2 : Hid (∀ W, LaidG W x g → Calls Tryz.prog 30 #[.slice (some ⟨bq, oq, none⟩) nt ct] W (ykk g.t W)) := by rw [← HSt2.out]; exact HCl.out
  rw [HSt2.out] at zt
  have Q0 := fun p : Wd w5.drew => zay zt p
  have Q1 := fun p : Wd w5.drew => za8 z (by decide) p
  have Q2 := fun p : Wd w5.drew => za8 yq (by decide) p
  have Q3 := fun p : Wd w5.drew => za8 zJ (by decide) p
  have Q4 := fun p : Wd w5.drew => za8 zf (by decide) p
  clear zt z yq zJ zf HCl
  refine zeu (w.heap.size + 1) [3, 8, 9, 10, 14, 15, 17] [4, 11, 19] (by kernel_rfl) (by kernel_rfl) (by kernel_rfl) ?_
  repeat (first | (refine zcf rfl rfl rfl hwB ?_; (first | go_big_quiet_step (fail) | quiet_step (fail)); refine wpQuiet_nil ?_) | (refine zem rfl rfl rfl hwB ?_; (first | go_big_quiet_step (fail) | quiet_step (fail)); refine wpQuiet_nil ?_))
  refine zi0 rfl rfl rfl zrv #[.slice (some ⟨bq, oq, none⟩) nt ct] rfl ?_
  refine (HCl2.out w5.drew (A.out.l.keep (zak (Below.refl _ _) 1))).mono ?_
  rintro e u ⟨v, rfl, hv, gg⟩
  refine ⟨_, rfl, gg, ?_⟩
  simp only [Act.put, List.setIfInBounds_toArray, List.set_cons_zero, List.set_cons_succ]
  obtain ⟨pc, c1, rfl⟩ := zdg hv HNt.out
  have HC := Lib.hid (zbf hv (Nat.le_refl w5.heap.size))
  have GB : Hid (Below w5.heap.size w5 u) := zac (zak (Below.refl _ _) 1) gg
  clear hv gg HCl2
  repeat (first | (refine zcf rfl rfl rfl hwB ?_; (first | go_big_quiet_step (fail) | quiet_step (fail)); refine wpQuiet_nil ?_) | (refine zem rfl rfl rfl hwB ?_; (first | go_big_quiet_step (fail) | quiet_step (fail)); refine wpQuiet_nil ?_))
  refine zi0 rfl rfl rfl zmu #[.agg (en x), .agg (cc J)] rfl ?_
  refine (HHd.out u (A.out.l.keep GB.out)).mono ?_
  rintro e u2 ⟨rfl, gg⟩
  refine ⟨_, rfl, gg, ?_⟩
  simp only [Act.put, List.setIfInBounds_toArray, List.set_cons_zero, List.set_cons_succ]
  replace HC := Lib.hid (zam gg HC.out)
  replace GB : Hid (Below w5.heap.size w5 u2) := zac GB.out gg
  clear gg HHd
  repeat (first | (refine zcf rfl rfl rfl hwB ?_; (first | go_big_quiet_step (fail) | quiet_step (fail)); refine wpQuiet_nil ?_) | (refine zem rfl rfl rfl hwB ?_; (first | go_big_quiet_step (fail) | quiet_step (fail)); refine wpQuiet_nil ?_))
  have me : u2.heap[w.heap.size + 1]? = some (.cells (sn zsn) 40 (0, 0)) := zab GB.out MR.out
  have yw := za0 me (ze2 _)
  have HA2 := Lib.hid (A.out.keep GB.out)
  refine zjl rfl rfl (stA u2 (.pointer (some ⟨w.heap.size + 1, 0, none⟩)) (.agg (sn ⟨ver, ⟨⟨pc, nt, c1⟩⟩, (nd g.t mm).root, J, g.fin⟩))) (by (go_simp; first | done | rfl)) (zd5 (by kernel_rfl) (zap (Below.refl _ _) (Nat.le_refl _))) ?_
  simp only [Act.put]
  have HSZ : Hid (w.heap.size + 1 ≤ u2.heap.size) := Nat.le_trans hwB GB.out.size
  have HR : Hid (LaidS (stA u2 (.pointer (some ⟨w.heap.size + 1, 0, none⟩)) (.agg (sn ⟨ver, ⟨⟨pc, nt, c1⟩⟩, (nd g.t mm).root, J, g.fin⟩))) ⟨ver, ⟨⟨pc, nt, c1⟩⟩, (nd g.t mm).root, J, g.fin⟩ S) := by
   rw [HE.out]
   refine ⟨?_, rfl, rfl, rfl, rfl⟩
   show SlE Ene _ (sv ⟨pc, nt, c1⟩) g.t
   rw [za7]
   exact zat (zdp HC.out HLt.out)
  have HZ : Hid (Below w.heap.size w (stA u2 (.pointer (some ⟨w.heap.size + 1, 0, none⟩)) (.agg (sn ⟨ver, ⟨⟨pc, nt, c1⟩⟩, (nd g.t mm).root, J, g.fin⟩)))) := zap HA2.out.g (Nat.le_succ _)
  have HMz : Hid ((stA u2 (.pointer (some ⟨w.heap.size + 1, 0, none⟩)) (.agg (sn ⟨ver, ⟨⟨pc, nt, c1⟩⟩, (nd g.t mm).root, J, g.fin⟩))).heap[w.heap.size + 1]? = some (.cells (sn ⟨ver, ⟨⟨pc, nt, c1⟩⟩, (nd g.t mm).root, J, g.fin⟩) 40 (0, 0))) := by show _ = _; rw [zbx me (by rw [ze2, ze2]; decide)]; congr 2; exact zy1 (by rw [ze2, ze2])
  clear yw me
  refine zo2 ?_
  clear Q0 Q1 Q2 Q3 Q4 hwB
  go_wp2_with fail
  exact bodyPost_ret (zax Tryz.isAgg40 Tryz.sizeOf40 _ 4 rfl _ _ _ _ rfl (zag HMz.out (ze2 _))) rfl ⟨_, rfl, HR.out, HZ.out⟩
open Go.RowKit
theorem ykd {α : Type} {E : Lie α} {w : World} {v : Value} {l : List α} {T : Nat} {c : Array Value} {t : TypeId} {fr : Nat × Nat} (h : SlE E w v l) (hl : 0 < l.length) (hT : w.heap[T]? = some (.cells c t fr)) (hb : v.ownBlock = some T) : ∃ off : Nat, ∀ (j : Nat) (u : Value), (zaq E l)[j]? = some u → c[off + j]? = some u := by
 obtain ⟨b, off, cap, rfl, _, _, hr⟩ := zdm h hl
 obtain rfl : b = T := Option.some.inj hb
 refine ⟨off, fun j u hu => ?_⟩
 have := hr j u hu
 rwa [cell_of_row _ _ _ _ _ _ hT] at this
theorem zg4 {α : Type} {E : Lie α} {w : World} {v y : Value} {l : List α} {T : Nat} (h : SlE E w v l) (hb : 0 < l.length → v.ownBlock ≠ some T) : SlE E (stA w (.pointer (some ⟨T, 0, none⟩)) y) v l := by
 by_cases hl : 0 < l.length
 ·
  exact zd6 h (by rw [zl0]; exact Nat.le_refl _) (fun k _ hk => zdf (fun e => hb hl (by rw [hk, e])))
 ·
  obtain rfl : l = [] := List.length_eq_zero_iff.1 (by omega)
  obtain ⟨p, cap, rfl, _⟩ := h
  exact zbr _ _ _ _
theorem yog {i : Nat} {u : Value} (h : (en zen)[i]? = some u) : (enL zen)[i]? = some u := by rwa [← z0k, Array.getElem?_toList]
theorem zto {c r : Array Value} (h : r.size = c.size) : za2 c 0 r = r := by
 apply Array.toList_inj.1
 unfold za2
 simp only [List.take_zero, List.nil_append, Nat.zero_add]
 rw [List.drop_of_length_le (by rw [Array.length_toList]; omega), List.append_nil]
def isIB : Value → Bool
 | .int .i64 _ => true
 | .bool _ => true
 | _ => false
theorem yrg : (enL zen).all (fun v => !isIB v) = true := by kernel_rfl
theorem zzv {i : Nat} {u : Value} (h : (en zen)[i]? = some u) : isIB u = false := by
 have := List.all_eq_true.1 yrg u (List.mem_of_getElem? (yog h))
 simpa using this
theorem yg9 {W : World} {T : Nat} {s1 s2 sb sw sj : SlV} {r : Rt} {bal : List UInt64} (hT : W.heap[T]? = some (.cells (en zen) 38 (0, 0))) (h1 : SlE Ene W (sv s1) [⟨r, -1, 0, 0⟩]) (h2 : SlE Elt W (sv s2) (newV (bal.length : Int)).l)
  (hb : SlE Enum W (sv sb) bal) (ob : (sv sb).ownBlock ≠ some T) (hw : SlE Enum W (sv sw) [0]) (ow : (sv sw).ownBlock ≠ some T) (hj : SlE Ecc W (sv sj) [⟨0, r⟩]) (oj : (sv sj).ownBlock ≠ some T) (y : Value) :
  LaidG (stA W (.pointer (some ⟨T, 0, none⟩)) y) ⟨⟨s1⟩, sb, ⟨s2, (newV (bal.length : Int)).out⟩, sw, ⟨none, 0, 0⟩, ⟨none, 0, 0⟩, sj, ⟨0, r⟩, 0⟩ (newG r bal) := by
 refine ⟨zg4 h1 fun h0 e => ?_, zg4 hb fun _ => ob, zg4 h2 fun h0 e => ?_, zg4 hw fun _ => ow, zbr _ _ _ _, zbr _ _ _ _, zg4 hj fun _ => oj, rfl, rfl, rfl⟩
 ·
  obtain ⟨off, ho⟩ := ykd h1 h0 hT e
  have e1 : (zaq Ene [⟨r, -1, 0, 0⟩])[32]? = some (.int .i64 (-1)) := by
   have := zfb ⟨r, -1, 0, 0⟩
   rw [zds, List.getElem?_append_left (by rw [Ene.len]; decide)]
   show (neL _)[32]? = _
   rwa [← zm2, Array.getElem?_toList]
  have := zzv (ho 32 _ e1)
  cases this
 ·
  obtain ⟨off, ho⟩ := ykd h2 h0 hT e
  have h0' : 0 < (newV (bal.length : Int)).l.length := h0
  clear h0 h2 e
  generalize (newV (bal.length : Int)).l = l at ho h0'
  cases l with
  | nil => cases h0'
  | cons x xs =>
   have e1 : (zaq Elt (x :: xs))[0]? = some (.bool x.has) := by
    rw [zds, List.getElem?_append_left (by rw [Elt.len]; decide)]
    show (ltL x)[0]? = _
    have := zm0 x
    rwa [← zvi, Array.getElem?_toList]
   have := zzv (ho 0 _ e1)
   cases this
theorem yec (W : World) : LaidG W zen z8n := ⟨zbr _ _ _ _, zbr _ _ _ _, zbr _ _ _ _, zbr _ _ _ _, zbr _ _ _ _, zbr _ _ _ _, zbr _ _ _ _, rfl, rfl, rfl⟩
theorem zct {b n c : Nat} {T : Nat} (h : b ≠ T) : (Value.slice (some ⟨b, 0, none⟩) n c).ownBlock ≠ some T := fun e => h (Option.some.inj e)
theorem zq1 {α : Type} {E : Lie α} {w : World} {base T : Nat} {v : Value} {l : List α} (h : OwnE E w base v l) (hT : T < base) : v.ownBlock ≠ some T := fun e => by
 have := (h.lt T e).1
 omega
section
variable {P : Program} {ops : Array Oper} {S1 E : List Nat} {B : Nat} {W : World} {Q : Exit → Act → World → Prop} {fuel : Nat} {listed : Array Bool} {a : Act} {w : World} {σ : List (Nat × World)}
theorem GX.branch3 (i j k : Nat) (hr : Region.ready .any ops listed = [i, j, k]) (h : xOp2 (La B) (Lb B) S1 P ops E W i (fun a' w' σ' => GX B S1 P ops E W Q fuel (listed.setIfInBounds i true) a' w' σ') a w σ) (h' : xOp2 (La B) (Lb B) S1 P ops E W j (fun a' w' σ' => GX B S1 P ops E W Q fuel (listed.setIfInBounds j true) a' w' σ') a w σ) (h'' : xOp2 (La B) (Lb B) S1 P ops E W k (fun a' w' σ' => GX B S1 P ops E W Q fuel (listed.setIfInBounds k true) a' w' σ') a w σ) : GX B S1 P ops E W Q (fuel + 1) listed a w σ := by
 unfold GX
 intro hv
 refine ⟨fun e => (by rw [hr] at e; cases e), fun m hm => ?_⟩
 have hm' := hm
 rw [hr, List.mem_cons, List.mem_cons, List.mem_singleton] at hm
 rcases hm with rfl | rfl | rfl
 ·
  exact zf4 (two B) hv hm' (fun _ _ _ hv' hk => by unfold GX at hk; exact hk hv') h
 ·
  exact zf4 (two B) hv hm' (fun _ _ _ hv' hk => by unfold GX at hk; exact hk hv') h'
 ·
  exact zf4 (two B) hv hm' (fun _ _ _ hv' hk => by unfold GX at hk; exact hk hv') h''
end
def yo1 (L : List Nd) (ok : Bool) (w : World) (e : Ending) (w' : World) : Prop := ∃ s : SlV, e = .returned (.tuple #[.agg (tr ⟨s⟩), .bool ok]) ∧ SlE Ene w' (sv s) L ∧ Below w.heap.size w w'
def newN (r : Rt) (q : UInt64) : Nd := ⟨r, -1, q, 0⟩
def ybu (q : UInt64) : Bool := decide (q.toNat ≤ 1099511627776)
def newL (r : Rt) (q : UInt64) : List Nd := if ybu q = true then [newN r q] else []
theorem yn9 (r : Rt) (q : UInt64) (w : World) :
  Calls Tryz.prog 57 #[.agg (rc r), .int .u64 (q.toNat : Int)] w (yo1 (newL r q) (ybu q) w) := by
 by_cases hq : q.toNat ≤ 1099511627776
 ·
  have e : ybu q = true := decide_eq_true hq
  have HL : Hid (newL r q = [newN r q]) := by unfold newL; rw [e, if_pos rfl]; exact Lib.hid rfl
  rw [e]
  have t1 : decide ((1099511627776 : Int) < (q.toNat : Int)) = false := by rw [decide_eq_false_iff_not]; omega
  have t1' : decide (1099511627776 < q.toNat) = false := by rw [decide_eq_false_iff_not]; omega
  clear hq e
  go_enter Tryz.func57, Tryz.ntmps57
  go_wp2_with fail
  exact bodyPost_ret (v := .tuple #[.agg (tr ⟨⟨some ⟨w.heap.size + 1 + 1, 0, none⟩, 1, 1⟩⟩), .bool true]) (zbb Tryz.isAgg24 Tryz.sizeOf24 _ 4 5 rfl _ _ _ _ _ rfl rfl (by go_simp)) rfl ⟨⟨some ⟨w.heap.size + 1 + 1, 0, none⟩, 1, 1⟩, rfl, by rw [HL.out]; exact zej _ [newN r q] 1 _ _ _ rfl (by simp) (by simp [zaq, Ene, zm2, newN, zne]), zac (zac below1 below1) below1⟩
 ·
  have e : ybu q = false := decide_eq_false hq
  have HL : Hid (newL r q = []) := by unfold newL; rw [e, if_neg Bool.false_ne_true]; exact Lib.hid rfl
  rw [e]
  have t1 : decide ((1099511627776 : Int) < (q.toNat : Int)) = true := by rw [decide_eq_true_iff]; omega
  have t1' : decide (1099511627776 < q.toNat) = true := by rw [decide_eq_true_iff]; omega
  clear hq e
  go_enter Tryz.func57, Tryz.ntmps57
  go_wp2_with fail
  exact bodyPost_ret (v := .tuple #[.agg (tr ⟨⟨none, 0, 0⟩⟩), .bool false]) (zbb Tryz.isAgg24 Tryz.sizeOf24 _ 4 5 rfl _ _ _ _ _ rfl rfl (by go_simp; rfl)) rfl ⟨⟨none, 0, 0⟩, rfl, by rw [HL.out]; exact zbr _ _ _ _, zac below1 below1⟩
section
@[local go_sem] theorem yts (r : Rt) : ({ epoch := zcc.epoch, root := r } : Ck) = ⟨0, r⟩ := rfl
theorem zcw : ∀ args w, (callFunc 59 args).run Tryz.prog w = .ok (.enter 59 args) w := zbe Tryz.func59 (by kernel_rfl) (by kernel_rfl)
theorem zyw (r : Rt) (pb : Option Addr) (nb cb : Nat) (bal : List UInt64) (w : World) (h : SlE Enum w (.slice pb nb cb) bal) (hl : bal.length = nb) (hn : nb ≤ 1000) :
  Calls Tryz.prog 27 #[.agg (rc r), .slice pb nb cb] w (EgOk (if mayB bal = true then newG r bal else z8n) (mayB bal) w) := by
 obtain ⟨W0, hW0⟩ : ∃ W0, W0 = (w.alloc (.cells (rc r) 34)).alloc (.cells (en zen) 38) := ⟨_, rfl⟩
 obtain ⟨hB, q0, q1, hz⟩ := zdb w _ _ _ _ W0 hW0
 have MR : Hid (W0.heap[w.heap.size]? = some (.cells (rc r) 34 (0, 0))) := q0
 have ME : Hid (W0.heap[w.heap.size + 1]? = some (.cells (en zen) 38 (0, 0))) := q1
 have KB := Lib.hid (zad hB h)
 have A0 := Lib.hid hB
 have HW := Lib.hid hW0
 have HL := Lib.hid hl
 have HN := Lib.hid hn
 have HMy := Lib.hid (fun W hh => zow (.slice pb nb cb) bal W hh)
 obtain ⟨may, hmay⟩ : ∃ m, m = mayB bal := ⟨_, rfl⟩
 rw [← hmay] at HMy ⊢
 obtain ⟨GE, hGr⟩ : ∃ G, G = (if may = true then newG r bal else z8n) := ⟨_, rfl⟩
 rw [← hGr]
 have HG0 : Hid (may = false → GE = z8n) := fun e => by rw [hGr, e]; rfl
 have HG1 : Hid (may = true → GE = newG r bal) := fun e => by rw [hGr, e]; rfl
 clear hW0 hB q0 q1 hz h hl hn hmay hGr
 go_enter Tryz.func27, Tryz.ntmps27
 go_upto_region 1 with fail
 rw [← HW.out]
 go_wp2_with fail
 refine (HMy.out _ KB.out).mono ?_
 rintro e w1 ⟨rfl, g⟩
 replace MR := Lib.hid (zab g MR.out)
 replace ME := Lib.hid (zab g ME.out)
 replace KB := Lib.hid (zad g KB.out)
 replace A0 := Lib.hid (zac A0.out g)
 clear g HMy
 cases may
 ·
  have HG := Lib.hid (HG0.out rfl)
  clear HG0 HG1
  have ye := za0 ME.out (zbc _)
  go_wp2_with fail
  exact bodyPost_ret (v := .tuple #[.agg (en zen), .bool false]) (zbb Tryz.isAgg38 Tryz.sizeOf38 _ 4 5 rfl _ _ _ _ _ rfl rfl (zag (by rw [zbx ME.out (by rw [zbc]; decide)]; congr 2; exact zto rfl) (zbc _))) rfl ⟨zen, rfl, by rw [HG.out]; exact yec _, zap A0.out (by omega)⟩
 ·
  have HG := Lib.hid (HG1.out rfl)
  clear HG0 HG1
  have zr := zag MR.out (zav _)
  go_wp2_with fail
  refine (yn9 r 0 _).mono ?_
  rintro e w2 ⟨s1, rfl, h1, g⟩
  rw [show newL r 0 = [⟨r, -1, 0, 0⟩] by unfold newL; rw [if_pos (show ybu 0 = true from rfl)]; rfl] at h1
  have gg := zac g (below1 (o := .cells (tr ⟨s1⟩) 24))
  replace MR := Lib.hid (zab gg MR.out)
  replace ME := Lib.hid (zab gg ME.out)
  replace KB := Lib.hid (zad gg KB.out)
  replace A0 := Lib.hid (zac A0.out gg)
  have MT : Hid ((w2.alloc (.cells (tr ⟨s1⟩) 24)).heap[w2.heap.size]? = some (.cells (tr ⟨s1⟩) 24 (0, 0))) := heap_alloc_last w2 _
  have K1 := Lib.hid (zad (below1 (o := .cells (tr ⟨s1⟩) 24)) h1)
  clear g gg h1 zr
  go_wp2_with fail
  have H12 := Lib.hid (yd0 (bal.length : Int))
  rw [HL.out] at H12
  refine (H12.out _).mono ?_
  rintro e w3 ⟨s2, rfl, h2, g⟩
  rw [← HL.out] at h2
  have gg := zac g (below1 (o := .cells (vo ⟨s2, (newV (nb : Int)).out⟩) 29))
  replace MR := Lib.hid (zab gg MR.out)
  replace ME := Lib.hid (zab gg ME.out)
  replace KB := Lib.hid (zad gg KB.out)
  replace A0 := Lib.hid (zac A0.out gg)
  replace MT := Lib.hid (zab gg MT.out)
  replace K1 := Lib.hid (zad gg K1.out)
  have MV : Hid ((w3.alloc (.cells (vo ⟨s2, (newV (nb : Int)).out⟩) 29)).heap[w3.heap.size]? = some (.cells (vo ⟨s2, (newV (nb : Int)).out⟩) 29 (0, 0))) := heap_alloc_last w3 _
  have K2 := Lib.hid (zad (below1 (o := .cells (vo ⟨s2, (newV (nb : Int)).out⟩) 29)) h2)
  clear g gg h2 H12
  have hz3 : (w3.alloc (.cells (vo ⟨s2, (newV (nb : Int)).out⟩) 29)).heap.size = w3.heap.size + 1 := by simp
  have zr := zag MR.out (zav _)
  go_upto_region 6 with fail
  generalize w3.alloc (.cells (vo ⟨s2, (newV (nb : Int)).out⟩) 29) = w4 at *
  obtain ⟨W7, hW7⟩ : ∃ W, W = w4.alloc (.cells (cc ⟨0, r⟩) 36) := ⟨_, rfl⟩
  have g7 : Below w4.heap.size w4 W7 := by rw [hW7]; exact below1
  have MC : Hid (W7.heap[w3.heap.size + 1]? = some (.cells (cc ⟨0, r⟩) 36 (0, 0))) := by show _ = _; rw [hW7, ← hz3]; exact heap_alloc_last w4 _
  replace ME := Lib.hid (zab g7 ME.out)
  replace KB := Lib.hid (zad g7 KB.out)
  replace A0 := Lib.hid (zac A0.out g7)
  replace MT := Lib.hid (zab g7 MT.out)
  replace K1 := Lib.hid (zad g7 K1.out)
  replace MV := Lib.hid (zab g7 MV.out)
  replace K2 := Lib.hid (zad g7 K2.out)
  have HLt : Hid (w.heap.size + 1 < W7.heap.size) := (Array.getElem?_eq_some_iff.1 ME.out).1
  rw [← hW7]
  clear hW7 g7 zr hz3 MR
  have zt := (zaw MT.out).2.1
  have zv := (zb5 MV.out).2.2.1
  have zc := zag MC.out (za5 _)
  have hwB : w.heap.size + 1 ≤ W7.drew.heap.size := Nat.le_of_lt HLt.out
  have Q0 := fun p : Wd W7.drew => za8 zt (by decide) p
  have Q1 := fun p : Wd W7.drew => za8 zv (by decide) p
  have Q2 := fun p : Wd W7.drew => za8 zc (by decide) p
  clear zt zv zc
  refine zro (w.heap.size + 1) [0, 3, 5, 7] [2, 4, 6, 9] (by kernel_rfl) ?_
  refine GX.take1 0 rfl rfl rfl (by kernel_rfl) (by kernel_rfl) (by kernel_rfl) rfl hwB ?_
  (first | go_big_quiet_step (fail) | quiet_step (fail)); refine wpQuiet_nil ?_
  refine GX.take2 1 rfl rfl rfl (by kernel_rfl) (by kernel_rfl) (by kernel_rfl) rfl hwB ?_
  (first | go_big_quiet_step (fail) | quiet_step (fail)); refine wpQuiet_nil ?_
  refine GX.take1 3 rfl rfl rfl (by kernel_rfl) (by kernel_rfl) (by kernel_rfl) rfl hwB ?_
  (first | go_big_quiet_step (fail) | quiet_step (fail)); refine wpQuiet_nil ?_
  refine GX.take1 5 rfl rfl rfl (by kernel_rfl) (by kernel_rfl) (by kernel_rfl) rfl hwB ?_
  (first | go_big_quiet_step (fail) | quiet_step (fail)); refine wpQuiet_nil ?_
  refine GX.take1 7 rfl rfl rfl (by kernel_rfl) (by kernel_rfl) (by kernel_rfl) rfl hwB ?_
  (first | go_big_quiet_step (fail) | quiet_step (fail)); refine wpQuiet_nil ?_
  have D0 : Below W7.heap.size W7 W7.drew := zak (Below.refl _ _) 1
  refine GX.branch3 2 4 6 (by kernel_rfl) ?o2 ?o4 ?o6
  case' o2 =>
   refine zht rfl rfl rfl rfl zcw #[.slice pb nb cb] rfl ?_
   refine (zga (.slice pb nb cb) bal W7.drew (zad D0 KB.out) (by have := HL.out; have := HN.out; omega)).mono ?_
   rintro e xa ⟨va, rfl, oa, ga⟩
   refine ⟨_, rfl, ga, ?_⟩
   simp only [Act.put, List.setIfInBounds_toArray, List.set_cons_zero, List.set_cons_succ]
   obtain ⟨⟨pa, na, ca⟩, rfl⟩ : ∃ s : SlV, va = sv s := by obtain ⟨p, c, rfl, _⟩ := zar (zat oa); exact ⟨⟨p, _, c⟩, (za7 _ _ _).symm⟩
   rw [za7] at oa ⊢
   have la : w.heap.size + 1 < W7.drew.heap.size := Nat.lt_of_lt_of_le HLt.out D0.size
   have ea : Value.ownBlock (.slice pa na ca) ≠ some (w.heap.size + 1) := zq1 oa la
   have ka := zat oa
   clear oa la
   have Da := zac D0 ga
   clear ga
   refine GX.branch2 4 6 (by kernel_rfl) ?o2_4 ?o2_6
   case' o2_4 =>
    refine ze5 rfl rfl rfl (.slice (some ⟨xa.heap.size, 0, none⟩) 1 1) (xa.alloc (.cells #[.int .u64 0] 27)) (by go_simp) (zdk below1) ?_
    simp only [Act.put, List.setIfInBounds_toArray, List.set_cons_zero, List.set_cons_succ]
    have kb : SlE Enum (xa.alloc (.cells #[.int .u64 0] 27)) (.slice (some ⟨xa.heap.size, 0, none⟩) 1 1) [0] := zls xa (v := 0) (by decide) _ rfl
    have eb : Value.ownBlock (.slice (some ⟨xa.heap.size, 0, none⟩) 1 1) ≠ some (w.heap.size + 1) := zct (by have := Nat.lt_of_lt_of_le HLt.out Da.size; omega)
    have gb : Below xa.heap.size xa (xa.alloc (.cells #[.int .u64 0] 27)) := below1
    generalize xa.alloc (.cells #[.int .u64 0] 27) = xb at *
    obtain ⟨Tb, hTb⟩ : ∃ T, T = xa.heap.size := ⟨_, rfl⟩
    rw [← hTb] at kb eb ⊢
    clear hTb
    replace ka := zad gb ka
    have Db := zac Da gb
    clear gb
    refine GX.branch1 6 (by kernel_rfl) ?_
    refine ze5 rfl rfl rfl (.slice (some ⟨xb.heap.size, 0, none⟩) 1 1) (xb.alloc (.cells (cc ⟨0, r⟩) 36)) (by go_simp) (zdk below1) ?_
    simp only [Act.put, List.setIfInBounds_toArray, List.set_cons_zero, List.set_cons_succ]
    have kc : SlE Ecc (xb.alloc (.cells (cc ⟨0, r⟩) 36)) (.slice (some ⟨xb.heap.size, 0, none⟩) 1 1) [⟨0, r⟩] := zj3 xb ⟨0, r⟩ _ rfl
    have ec : Value.ownBlock (.slice (some ⟨xb.heap.size, 0, none⟩) 1 1) ≠ some (w.heap.size + 1) := zct (by have := Nat.lt_of_lt_of_le HLt.out Db.size; omega)
    have gc : Below xb.heap.size xb (xb.alloc (.cells (cc ⟨0, r⟩) 36)) := below1
    generalize xb.alloc (.cells (cc ⟨0, r⟩) 36) = xc at *
    obtain ⟨Tc, hTc⟩ : ∃ T, T = xb.heap.size := ⟨_, rfl⟩
    rw [← hTc] at kc ec ⊢
    clear hTc
    replace ka := zad gc ka
    replace kb := zad gc kb
    have Dc := zac Db gc
    clear gc
    obtain ⟨xz, hxz⟩ : ∃ X, X = xc := ⟨_, rfl⟩
    rw [← hxz]
    have Dz : Below W7.heap.size W7 xz := by rw [hxz]; exact Dc
    rw [← hxz] at ka
    rw [← hxz] at kb
    rw [← hxz] at kc
    clear hxz Da Db Dc
   case' o2_6 =>
    refine ze5 rfl rfl rfl (.slice (some ⟨xa.heap.size, 0, none⟩) 1 1) (xa.alloc (.cells (cc ⟨0, r⟩) 36)) (by go_simp) (zdk below1) ?_
    simp only [Act.put, List.setIfInBounds_toArray, List.set_cons_zero, List.set_cons_succ]
    have kc : SlE Ecc (xa.alloc (.cells (cc ⟨0, r⟩) 36)) (.slice (some ⟨xa.heap.size, 0, none⟩) 1 1) [⟨0, r⟩] := zj3 xa ⟨0, r⟩ _ rfl
    have ec : Value.ownBlock (.slice (some ⟨xa.heap.size, 0, none⟩) 1 1) ≠ some (w.heap.size + 1) := zct (by have := Nat.lt_of_lt_of_le HLt.out Da.size; omega)
    have gc : Below xa.heap.size xa (xa.alloc (.cells (cc ⟨0, r⟩) 36)) := below1
    generalize xa.alloc (.cells (cc ⟨0, r⟩) 36) = xc at *
    obtain ⟨Tc, hTc⟩ : ∃ T, T = xa.heap.size := ⟨_, rfl⟩
    rw [← hTc] at kc ec ⊢
    clear hTc
    replace ka := zad gc ka
    have Dc := zac Da gc
    clear gc
    refine GX.branch1 4 (by kernel_rfl) ?_
    refine ze5 rfl rfl rfl (.slice (some ⟨xc.heap.size, 0, none⟩) 1 1) (xc.alloc (.cells #[.int .u64 0] 27)) (by go_simp) (zdk below1) ?_
    simp only [Act.put, List.setIfInBounds_toArray, List.set_cons_zero, List.set_cons_succ]
    have kb : SlE Enum (xc.alloc (.cells #[.int .u64 0] 27)) (.slice (some ⟨xc.heap.size, 0, none⟩) 1 1) [0] := zls xc (v := 0) (by decide) _ rfl
    have eb : Value.ownBlock (.slice (some ⟨xc.heap.size, 0, none⟩) 1 1) ≠ some (w.heap.size + 1) := zct (by have := Nat.lt_of_lt_of_le HLt.out Dc.size; omega)
    have gb : Below xc.heap.size xc (xc.alloc (.cells #[.int .u64 0] 27)) := below1
    generalize xc.alloc (.cells #[.int .u64 0] 27) = xb at *
    obtain ⟨Tb, hTb⟩ : ∃ T, T = xc.heap.size := ⟨_, rfl⟩
    rw [← hTb] at kb eb ⊢
    clear hTb
    replace ka := zad gb ka
    replace kc := zad gb kc
    have Db := zac Dc gb
    clear gb
    obtain ⟨xz, hxz⟩ : ∃ X, X = xb := ⟨_, rfl⟩
    rw [← hxz]
    have Dz : Below W7.heap.size W7 xz := by rw [hxz]; exact Db
    rw [← hxz] at ka
    rw [← hxz] at kc
    rw [← hxz] at kb
    clear hxz Da Dc Db
  case' o4 =>
   refine ze5 rfl rfl rfl (.slice (some ⟨W7.drew.heap.size, 0, none⟩) 1 1) (W7.drew.alloc (.cells #[.int .u64 0] 27)) (by go_simp) (zdk below1) ?_
   simp only [Act.put, List.setIfInBounds_toArray, List.set_cons_zero, List.set_cons_succ]
   have kb : SlE Enum (W7.drew.alloc (.cells #[.int .u64 0] 27)) (.slice (some ⟨W7.drew.heap.size, 0, none⟩) 1 1) [0] := zls W7.drew (v := 0) (by decide) _ rfl
   have eb : Value.ownBlock (.slice (some ⟨W7.drew.heap.size, 0, none⟩) 1 1) ≠ some (w.heap.size + 1) := zct (by have := Nat.lt_of_lt_of_le HLt.out D0.size; omega)
   have gb : Below W7.drew.heap.size W7.drew (W7.drew.alloc (.cells #[.int .u64 0] 27)) := below1
   generalize W7.drew.alloc (.cells #[.int .u64 0] 27) = xb at *
   obtain ⟨Tb, hTb⟩ : ∃ T, T = W7.drew.heap.size := ⟨_, rfl⟩
   rw [← hTb] at kb eb ⊢
   clear hTb
   have Db := zac D0 gb
   clear gb
   refine GX.branch2 2 6 (by kernel_rfl) ?o4_2 ?o4_6
   case' o4_2 =>
    refine zht rfl rfl rfl rfl zcw #[.slice pb nb cb] rfl ?_
    refine (zga (.slice pb nb cb) bal xb (zad Db KB.out) (by have := HL.out; have := HN.out; omega)).mono ?_
    rintro e xa ⟨va, rfl, oa, ga⟩
    refine ⟨_, rfl, ga, ?_⟩
    simp only [Act.put, List.setIfInBounds_toArray, List.set_cons_zero, List.set_cons_succ]
    obtain ⟨⟨pa, na, ca⟩, rfl⟩ : ∃ s : SlV, va = sv s := by obtain ⟨p, c, rfl, _⟩ := zar (zat oa); exact ⟨⟨p, _, c⟩, (za7 _ _ _).symm⟩
    rw [za7] at oa ⊢
    have la : w.heap.size + 1 < xb.heap.size := Nat.lt_of_lt_of_le HLt.out Db.size
    have ea : Value.ownBlock (.slice pa na ca) ≠ some (w.heap.size + 1) := zq1 oa la
    have ka := zat oa
    clear oa la
    replace kb := zad ga kb
    have Da := zac Db ga
    clear ga
    refine GX.branch1 6 (by kernel_rfl) ?_
    refine ze5 rfl rfl rfl (.slice (some ⟨xa.heap.size, 0, none⟩) 1 1) (xa.alloc (.cells (cc ⟨0, r⟩) 36)) (by go_simp) (zdk below1) ?_
    simp only [Act.put, List.setIfInBounds_toArray, List.set_cons_zero, List.set_cons_succ]
    have kc : SlE Ecc (xa.alloc (.cells (cc ⟨0, r⟩) 36)) (.slice (some ⟨xa.heap.size, 0, none⟩) 1 1) [⟨0, r⟩] := zj3 xa ⟨0, r⟩ _ rfl
    have ec : Value.ownBlock (.slice (some ⟨xa.heap.size, 0, none⟩) 1 1) ≠ some (w.heap.size + 1) := zct (by have := Nat.lt_of_lt_of_le HLt.out Da.size; omega)
    have gc : Below xa.heap.size xa (xa.alloc (.cells (cc ⟨0, r⟩) 36)) := below1
    generalize xa.alloc (.cells (cc ⟨0, r⟩) 36) = xc at *
    obtain ⟨Tc, hTc⟩ : ∃ T, T = xa.heap.size := ⟨_, rfl⟩
    rw [← hTc] at kc ec ⊢
    clear hTc
    replace kb := zad gc kb
    replace ka := zad gc ka
    have Dc := zac Da gc
    clear gc
    obtain ⟨xz, hxz⟩ : ∃ X, X = xc := ⟨_, rfl⟩
    rw [← hxz]
    have Dz : Below W7.heap.size W7 xz := by rw [hxz]; exact Dc
    rw [← hxz] at kb
    rw [← hxz] at ka
    rw [← hxz] at kc
    clear hxz Db Da Dc
   case' o4_6 =>
    refine ze5 rfl rfl rfl (.slice (some ⟨xb.heap.size, 0, none⟩) 1 1) (xb.alloc (.cells (cc ⟨0, r⟩) 36)) (by go_simp) (zdk below1) ?_
    simp only [Act.put, List.setIfInBounds_toArray, List.set_cons_zero, List.set_cons_succ]
    have kc : SlE Ecc (xb.alloc (.cells (cc ⟨0, r⟩) 36)) (.slice (some ⟨xb.heap.size, 0, none⟩) 1 1) [⟨0, r⟩] := zj3 xb ⟨0, r⟩ _ rfl
    have ec : Value.ownBlock (.slice (some ⟨xb.heap.size, 0, none⟩) 1 1) ≠ some (w.heap.size + 1) := zct (by have := Nat.lt_of_lt_of_le HLt.out Db.size; omega)
    have gc : Below xb.heap.size xb (xb.alloc (.cells (cc ⟨0, r⟩) 36)) := below1
    generalize xb.alloc (.cells (cc ⟨0, r⟩) 36) = xc at *
    obtain ⟨Tc, hTc⟩ : ∃ T, T = xb.heap.size := ⟨_, rfl⟩
    rw [← hTc] at kc ec ⊢
    clear hTc
    replace kb := zad gc kb
    have Dc := zac Db gc
    clear gc
    refine GX.branch1 2 (by kernel_rfl) ?_
    refine zht rfl rfl rfl rfl zcw #[.slice pb nb cb] rfl ?_
    refine (zga (.slice pb nb cb) bal xc (zad Dc KB.out) (by have := HL.out; have := HN.out; omega)).mono ?_
    rintro e xa ⟨va, rfl, oa, ga⟩
    refine ⟨_, rfl, ga, ?_⟩
    simp only [Act.put, List.setIfInBounds_toArray, List.set_cons_zero, List.set_cons_succ]
    obtain ⟨⟨pa, na, ca⟩, rfl⟩ : ∃ s : SlV, va = sv s := by obtain ⟨p, c, rfl, _⟩ := zar (zat oa); exact ⟨⟨p, _, c⟩, (za7 _ _ _).symm⟩
    rw [za7] at oa ⊢
    have la : w.heap.size + 1 < xc.heap.size := Nat.lt_of_lt_of_le HLt.out Dc.size
    have ea : Value.ownBlock (.slice pa na ca) ≠ some (w.heap.size + 1) := zq1 oa la
    have ka := zat oa
    clear oa la
    replace kb := zad ga kb
    replace kc := zad ga kc
    have Da := zac Dc ga
    clear ga
    obtain ⟨xz, hxz⟩ : ∃ X, X = xa := ⟨_, rfl⟩
    rw [← hxz]
    have Dz : Below W7.heap.size W7 xz := by rw [hxz]; exact Da
    rw [← hxz] at kb
    rw [← hxz] at kc
    rw [← hxz] at ka
    clear hxz Db Dc Da
  case' o6 =>
   refine ze5 rfl rfl rfl (.slice (some ⟨W7.drew.heap.size, 0, none⟩) 1 1) (W7.drew.alloc (.cells (cc ⟨0, r⟩) 36)) (by go_simp) (zdk below1) ?_
   simp only [Act.put, List.setIfInBounds_toArray, List.set_cons_zero, List.set_cons_succ]
   have kc : SlE Ecc (W7.drew.alloc (.cells (cc ⟨0, r⟩) 36)) (.slice (some ⟨W7.drew.heap.size, 0, none⟩) 1 1) [⟨0, r⟩] := zj3 W7.drew ⟨0, r⟩ _ rfl
   have ec : Value.ownBlock (.slice (some ⟨W7.drew.heap.size, 0, none⟩) 1 1) ≠ some (w.heap.size + 1) := zct (by have := Nat.lt_of_lt_of_le HLt.out D0.size; omega)
   have gc : Below W7.drew.heap.size W7.drew (W7.drew.alloc (.cells (cc ⟨0, r⟩) 36)) := below1
   generalize W7.drew.alloc (.cells (cc ⟨0, r⟩) 36) = xc at *
   obtain ⟨Tc, hTc⟩ : ∃ T, T = W7.drew.heap.size := ⟨_, rfl⟩
   rw [← hTc] at kc ec ⊢
   clear hTc
   have Dc := zac D0 gc
   clear gc
   refine GX.branch2 2 4 (by kernel_rfl) ?o6_2 ?o6_4
   case' o6_2 =>
    refine zht rfl rfl rfl rfl zcw #[.slice pb nb cb] rfl ?_
    refine (zga (.slice pb nb cb) bal xc (zad Dc KB.out) (by have := HL.out; have := HN.out; omega)).mono ?_
    rintro e xa ⟨va, rfl, oa, ga⟩
    refine ⟨_, rfl, ga, ?_⟩
    simp only [Act.put, List.setIfInBounds_toArray, List.set_cons_zero, List.set_cons_succ]
    obtain ⟨⟨pa, na, ca⟩, rfl⟩ : ∃ s : SlV, va = sv s := by obtain ⟨p, c, rfl, _⟩ := zar (zat oa); exact ⟨⟨p, _, c⟩, (za7 _ _ _).symm⟩
    rw [za7] at oa ⊢
    have la : w.heap.size + 1 < xc.heap.size := Nat.lt_of_lt_of_le HLt.out Dc.size
    have ea : Value.ownBlock (.slice pa na ca) ≠ some (w.heap.size + 1) := zq1 oa la
    have ka := zat oa
    clear oa la
    replace kc := zad ga kc
    have Da := zac Dc ga
    clear ga
    refine GX.branch1 4 (by kernel_rfl) ?_
    refine ze5 rfl rfl rfl (.slice (some ⟨xa.heap.size, 0, none⟩) 1 1) (xa.alloc (.cells #[.int .u64 0] 27)) (by go_simp) (zdk below1) ?_
    simp only [Act.put, List.setIfInBounds_toArray, List.set_cons_zero, List.set_cons_succ]
    have kb : SlE Enum (xa.alloc (.cells #[.int .u64 0] 27)) (.slice (some ⟨xa.heap.size, 0, none⟩) 1 1) [0] := zls xa (v := 0) (by decide) _ rfl
    have eb : Value.ownBlock (.slice (some ⟨xa.heap.size, 0, none⟩) 1 1) ≠ some (w.heap.size + 1) := zct (by have := Nat.lt_of_lt_of_le HLt.out Da.size; omega)
    have gb : Below xa.heap.size xa (xa.alloc (.cells #[.int .u64 0] 27)) := below1
    generalize xa.alloc (.cells #[.int .u64 0] 27) = xb at *
    obtain ⟨Tb, hTb⟩ : ∃ T, T = xa.heap.size := ⟨_, rfl⟩
    rw [← hTb] at kb eb ⊢
    clear hTb
    replace kc := zad gb kc
    replace ka := zad gb ka
    have Db := zac Da gb
    clear gb
    obtain ⟨xz, hxz⟩ : ∃ X, X = xb := ⟨_, rfl⟩
    rw [← hxz]
    have Dz : Below W7.heap.size W7 xz := by rw [hxz]; exact Db
    rw [← hxz] at kc
    rw [← hxz] at ka
    rw [← hxz] at kb
    clear hxz Dc Da Db
   case' o6_4 =>
    refine ze5 rfl rfl rfl (.slice (some ⟨xc.heap.size, 0, none⟩) 1 1) (xc.alloc (.cells #[.int .u64 0] 27)) (by go_simp) (zdk below1) ?_
    simp only [Act.put, List.setIfInBounds_toArray, List.set_cons_zero, List.set_cons_succ]
    have kb : SlE Enum (xc.alloc (.cells #[.int .u64 0] 27)) (.slice (some ⟨xc.heap.size, 0, none⟩) 1 1) [0] := zls xc (v := 0) (by decide) _ rfl
    have eb : Value.ownBlock (.slice (some ⟨xc.heap.size, 0, none⟩) 1 1) ≠ some (w.heap.size + 1) := zct (by have := Nat.lt_of_lt_of_le HLt.out Dc.size; omega)
    have gb : Below xc.heap.size xc (xc.alloc (.cells #[.int .u64 0] 27)) := below1
    generalize xc.alloc (.cells #[.int .u64 0] 27) = xb at *
    obtain ⟨Tb, hTb⟩ : ∃ T, T = xc.heap.size := ⟨_, rfl⟩
    rw [← hTb] at kb eb ⊢
    clear hTb
    replace kc := zad gb kc
    have Db := zac Dc gb
    clear gb
    refine GX.branch1 2 (by kernel_rfl) ?_
    refine zht rfl rfl rfl rfl zcw #[.slice pb nb cb] rfl ?_
    refine (zga (.slice pb nb cb) bal xb (zad Db KB.out) (by have := HL.out; have := HN.out; omega)).mono ?_
    rintro e xa ⟨va, rfl, oa, ga⟩
    refine ⟨_, rfl, ga, ?_⟩
    simp only [Act.put, List.setIfInBounds_toArray, List.set_cons_zero, List.set_cons_succ]
    obtain ⟨⟨pa, na, ca⟩, rfl⟩ : ∃ s : SlV, va = sv s := by obtain ⟨p, c, rfl, _⟩ := zar (zat oa); exact ⟨⟨p, _, c⟩, (za7 _ _ _).symm⟩
    rw [za7] at oa ⊢
    have la : w.heap.size + 1 < xb.heap.size := Nat.lt_of_lt_of_le HLt.out Db.size
    have ea : Value.ownBlock (.slice pa na ca) ≠ some (w.heap.size + 1) := zq1 oa la
    have ka := zat oa
    clear oa la
    replace kc := zad ga kc
    replace kb := zad ga kb
    have Da := zac Db ga
    clear ga
    obtain ⟨xz, hxz⟩ : ∃ X, X = xa := ⟨_, rfl⟩
    rw [← hxz]
    have Dz : Below W7.heap.size W7 xz := by rw [hxz]; exact Da
    rw [← hxz] at kc
    rw [← hxz] at kb
    rw [← hxz] at ka
    clear hxz Dc Db Da
  all_goals
   refine GX.take2 8 rfl rfl rfl (by kernel_rfl) (by kernel_rfl) (by kernel_rfl) rfl hwB ?_
   (first | go_big_quiet_step (fail) | quiet_step (fail)); refine wpQuiet_nil ?_
   have me := zab Dz ME.out
   have yw := za0 me (zbc _)
   refine GX.branch1 9 (by kernel_rfl) ?_
   refine zrq rfl rfl rfl (stA xz (.pointer (some ⟨w.heap.size + 1, 0, none⟩)) (.agg (en ⟨⟨s1⟩, ⟨pa, na, ca⟩, ⟨s2, (newV (nb : Int)).out⟩, ⟨some ⟨Tb, 0, none⟩, 1, 1⟩, ⟨none, 0, 0⟩, ⟨none, 0, 0⟩, ⟨some ⟨Tc, 0, none⟩, 1, 1⟩, ⟨0, r⟩, 0⟩))) (by (go_simp; first | done | rfl)) (zd5 (by kernel_rfl) (zap (Below.refl _ _) (Nat.le_refl _))) ?_
   simp only [Act.put]
   have HR : Hid (LaidG (stA xz (.pointer (some ⟨w.heap.size + 1, 0, none⟩)) (.agg (en ⟨⟨s1⟩, ⟨pa, na, ca⟩, ⟨s2, (newV (nb : Int)).out⟩, ⟨some ⟨Tb, 0, none⟩, 1, 1⟩, ⟨none, 0, 0⟩, ⟨none, 0, 0⟩, ⟨some ⟨Tc, 0, none⟩, 1, 1⟩, ⟨0, r⟩, 0⟩))) ⟨⟨s1⟩, ⟨pa, na, ca⟩, ⟨s2, (newV (nb : Int)).out⟩, ⟨some ⟨Tb, 0, none⟩, 1, 1⟩, ⟨none, 0, 0⟩, ⟨none, 0, 0⟩, ⟨some ⟨Tc, 0, none⟩, 1, 1⟩, ⟨0, r⟩, 0⟩ (newG r bal)) := by have := yg9 me (zad Dz K1.out) (zad Dz K2.out) (sb := ⟨pa, na, ca⟩) (sw := ⟨some ⟨Tb, 0, none⟩, 1, 1⟩) (sj := ⟨some ⟨Tc, 0, none⟩, 1, 1⟩) (by rw [za7]; exact ka) (by rw [za7]; exact ea) (by rw [za7]; exact kb) (by rw [za7]; exact eb) (by rw [za7]; exact kc) (by rw [za7]; exact ec) (.agg (en ⟨⟨s1⟩, ⟨pa, na, ca⟩, ⟨s2, (newV (nb : Int)).out⟩, ⟨some ⟨Tb, 0, none⟩, 1, 1⟩, ⟨none, 0, 0⟩, ⟨none, 0, 0⟩, ⟨some ⟨Tc, 0, none⟩, 1, 1⟩, ⟨0, r⟩, 0⟩)); rw [HL.out] at this; exact this
   have HM : Hid ((stA xz (.pointer (some ⟨w.heap.size + 1, 0, none⟩)) (.agg (en ⟨⟨s1⟩, ⟨pa, na, ca⟩, ⟨s2, (newV (nb : Int)).out⟩, ⟨some ⟨Tb, 0, none⟩, 1, 1⟩, ⟨none, 0, 0⟩, ⟨none, 0, 0⟩, ⟨some ⟨Tc, 0, none⟩, 1, 1⟩, ⟨0, r⟩, 0⟩))).heap[w.heap.size + 1]? = some (.cells (en ⟨⟨s1⟩, ⟨pa, na, ca⟩, ⟨s2, (newV (nb : Int)).out⟩, ⟨some ⟨Tb, 0, none⟩, 1, 1⟩, ⟨none, 0, 0⟩, ⟨none, 0, 0⟩, ⟨some ⟨Tc, 0, none⟩, 1, 1⟩, ⟨0, r⟩, 0⟩) 38 (0, 0))) := by show _ = _; rw [zbx me (by rw [zbc, zbc]; decide)]; congr 2; exact zto (by rw [zbc, zbc])
   have HZ : Hid (Below w.heap.size w (stA xz (.pointer (some ⟨w.heap.size + 1, 0, none⟩)) (.agg (en ⟨⟨s1⟩, ⟨pa, na, ca⟩, ⟨s2, (newV (nb : Int)).out⟩, ⟨some ⟨Tb, 0, none⟩, 1, 1⟩, ⟨none, 0, 0⟩, ⟨none, 0, 0⟩, ⟨some ⟨Tc, 0, none⟩, 1, 1⟩, ⟨0, r⟩, 0⟩)))) := zap (zac A0.out Dz) (by omega)
   clear yw
   refine GX.take2 10 rfl rfl rfl (by kernel_rfl) (by kernel_rfl) (by kernel_rfl) rfl hwB ?_
   (first | go_big_quiet_step (fail) | quiet_step (fail)); refine wpQuiet_nil ?_
   refine GX.nil (by kernel_rfl) ?_
   clear Q0 Q1 Q2 hwB
   go_wp2_with fail
   exact bodyPost_ret (v := .tuple #[.agg (en _), .bool true]) (zbb Tryz.isAgg38 Tryz.sizeOf38 _ 4 5 rfl _ _ _ _ _ rfl rfl (zag HM.out (zbc _))) rfl ⟨_, rfl, by rw [HG.out]; exact HR.out, HZ.out⟩
theorem z67 (r : Rt) (v : Value) (bal : List UInt64) (w : World) (h : SlE Enum w v bal) (hn : bal.length ≤ 1000) :
  Calls Tryz.prog 27 #[.agg (rc r), v] w (EgOk (if mayB bal = true then newG r bal else z8n) (mayB bal) w) := by
 have k := h
 obtain ⟨p, c, rfl, _⟩ := zar h
 exact zyw r p _ c bal w k rfl hn
end
end Go.Proofs.YtkalofboioffiaaGreat
