import Derived.Test.YtkalofboioffiaaGreatQ22
import Derived.Laws.Bits64b
namespace Go.Proofs.YtkalofboioffiaaGreat
open Go.RowKit
set_option maxRecDepth 200000
set_option maxHeartbeats 64000000
def ysm : Prop := ∀ (s : SlV) (v u : Value) (l : List Nd) (a : List UInt64) (b : List Bool) (i : Int) (w : World), SlE Ene w (sv s) l → SlE Enum w v a → SlE Eboo w u b → Calls Tryz.prog 63 #[.agg (tr ⟨s⟩), v, u, .int .i64 i] w fun e w' => e = .returned (.int .i64 (zxr l a b i)) ∧ Below w.heap.size w w'
theorem zpl : ∀ args w, (callFunc 63 args).run Tryz.prog w = .ok (.enter 63 args) w := zbe Tryz.func63 (by kernel_rfl) (by kernel_rfl)
section
open Go.Shelf
attribute [local go_sem] Oper.semAt_some
theorem z58 (ks : List Nat) (k : Nat) : z0x (ks ++ [k]) = (k : Int) := by
 unfold z0x
 rw [List.map_append]; simp [List.getLastD_eq_getLast?]
theorem yl8 (p q1 q2 : Option Addr) (n cp m1 c1 m2 c2 : Nat) (l : List Nd) (a : List UInt64) (b : List Bool) (i : Int) (w : World) (h : SlE Ene w (.slice p n cp) l) (h1 : SlE Enum w (.slice q1 m1 c1) a) (h2 : SlE Eboo w (.slice q2 m2 c2) b) (hl : l.length = n) (ha : a.length = m1) (hb : b.length = m2) :
  Calls Tryz.prog 63 #[.agg (tr ⟨⟨p, n, cp⟩⟩), .slice q1 m1 c1, .slice q2 m2 c2, .int .i64 i] w fun e w' => e = .returned (.int .i64 (zxr l a b i)) ∧ Below w.heap.size w w' := by
 obtain ⟨z, hz⟩ : ∃ z, z = zxr l a b i := ⟨_, rfl⟩
 have HZ : Hid (z = z0x (dnL l a b i)) := by show z = _; rw [hz, yfx]
 rw [← hz]
 obtain ⟨W0, hW0⟩ : ∃ W0, W0 = (w.alloc (.cells (tr ⟨⟨p, n, cp⟩⟩) 24)).alloc (.cells #[.int .i64 (-1)] 3) := ⟨_, rfl⟩
 obtain ⟨hB, k0, k1, hz0⟩ := zdb w _ _ _ _ W0 hW0
 have HB := Lib.hid hB
 have HW := Lib.hid hW0
 have K0 := Lib.hid k0
 have K1 := Lib.hid k1
 have HZ0 := Lib.hid hz0
 have HD := Lib.hid (fun (w2 : World) (bt : Nat) (hw : Below w.heap.size w w2) (hDb : w.heap.size + 1 < bt) => yfy 2 (by omega) (w.heap.size + 1) bt p q1 q2 n cp m1 c1 m2 c2 l a b i w w2 h h1 h2 hl ha hb hw hDb)
 clear hW0 h h1 h2 hl ha hb hz hB k0 k1 hz0
 refine callsIn_wide.1 (callsIn_of_wp_marks (n := 3) Tryz.func63 rfl trivial (wpIn_wide.2 ?_))
 simp only [Tryz.ntmps63, List.size_toArray, List.length_cons, List.length_nil, Nat.reduceAdd, Nat.reduceSub, Array.replicate_succ, Array.replicate_zero, List.push_toArray, List.append_toArray, List.nil_append, List.cons_append]
 go_wp2_with fail
 rw [← HW.out]
 have z1 := (zaw K0.out).2.1
 go_wp2_with fail
 refine (yes _ _ _ _ _ _ _ _ W0).mono ?_
 rintro e w2 ⟨rfl, hw2⟩
 obtain ⟨hB2, t0, t1, t2, t3, hz2⟩ := ysx W0 _ _ _ _ _ _ _ _ w2 hw2
 have HB2 := Lib.hid hB2
 have HZ2 := Lib.hid hz2
 have HBw : Hid (Below w.heap.size w w2) := zac HB.out hB2
 have HDn := Lib.hid (HD.out w2 W0.heap.size HBw.out (by have := HZ0.out; omega) t0 t1 t2 t3)
 have HK1 : Hid (w2.heap[w.heap.size + 1]? = some (.cells #[.int .i64 (-1)] 3 (0, 0))) := zab hB2 K1.out
 have HSZ : Hid (w.heap.size ≤ w2.heap.size ∧ w.heap.size + 1 < w2.heap.size) := by show _ ∧ _; have := HZ0.out; omega
 clear hw2 hB2 t0 t1 t2 t3 hz2 z1 HD
 go_wp2_with fail
 refine (wpIn_wide (n := 3)).1 ?_
 refine wpIn_rangeFunc_ownF (w0 := w2) rfl (by omega) (gf := 141) (lb := #[.pointer (some ⟨W0.heap.size, 0, none⟩), .pointer (some ⟨W0.heap.size + 1, 0, none⟩), .pointer (some ⟨W0.heap.size + 1 + 1, 0, none⟩), .pointer (some ⟨W0.heap.size + 1 + 1 + 1, 0, none⟩)]) rfl trivial (zbe Tryz.func141 (by kernel_rfl) (by kernel_rfl))
  HDn.out z22 (z21 HSZ.out.1 (Nat.le_refl _)) (Below.refl _ _) (fun _ => rfl)
  (fun pre W => W.heap[w.heap.size + 1]? = some (.cells #[.int .i64 (z0x (pre.map Subtype.val))] 3 (0, 0)) ∧ But w.heap.size w2.heap.size (w.heap.size + 1) w2 W)
  (fun _ _ _ => False)
  (OwnFrom.and (zz6 _ HSZ.out.2) (But.own (Nat.le_refl _) (Nat.le_refl _) HSZ.out.1)) (fun _ _ _ _ _ h _ _ => h)
  ⟨HK1.out, But.refl _ _ _ _⟩ ?a1 ?assign ?body ?done ?stop
 case assign =>
  intro lo x W K hK
  gi_wp2
  exact hK
 case body =>
  rintro lo pre x W ⟨hp, hB⟩ hlen
  have HP := Lib.hid hp
  have HBW := Lib.hid hB
  obtain ⟨c1, c2⟩ := zaj hp
  clear hp hB hlen
  gi_wp2
  refine ⟨KeepsOthers.setCell _ _ _, (But.refl _ _ _ _).setCell (Nat.le_succ _) _, ?_, HBW.out.setCell (Nat.le_succ _) _⟩
  rw [List.map_append, List.map_cons, List.map_nil, z58]
  exact zz7 HP.out _
 case done =>
  rintro D ys W hD hys ⟨hp, hB⟩ hK
  have hX : Hid (z0x (ys.map Subtype.val) = z) := by show _ = z; rw [hys, HZ.out]
  rw [hX.out] at hp
  have c1 := (zaj hp).1
  have HBf := Lib.hid (HBw.out.trans hB.below)
  have HKD := Lib.hid hK
  have hDD : Hid (w.heap.size ≤ D) := Nat.le_trans HSZ.out.1 hD
  clear hp hB hK hys hD
  go_wp2_with fail
  exact zhj (v := .int .i64 z) HKD.out ⟨by simp [results, Tryz.results63, go_sem], rfl, zdc HKD.out HBf.out hDD.out⟩
 case stop =>
  rintro D c pre W hD hpre h
  exact h.elim
theorem yet : ysm := fun s v u l a b i w h h1 h2 => by
 have hl := zcn h
 obtain ⟨p, n, cp⟩ := s
 dsimp only at hl
 have k1 := h1
 have k2 := h2
 obtain ⟨q1, c1, rfl, _⟩ := zar h1
 obtain ⟨q2, c2, rfl, _⟩ := zar h2
 exact yl8 p q1 q2 n cp _ c1 _ c2 l a b i w h k1 k2 hl rfl rfl
end
theorem z7a (x : En) (g : Eg) (w : World) (h : LaidG w x g) : Calls Tryz.prog 31 #[.agg (en x), .agg (cc (zd9 g))] w fun e w' => e = .returned (.int .i64 (zr0 g)) ∧ Below w.heap.size w w' := by
 obtain ⟨J, hJ⟩ : ∃ J, J = zd9 g := ⟨_, rfl⟩
 rw [← hJ]
 obtain ⟨W0, hW0⟩ : ∃ W0, W0 = (w.alloc (.cells (en x) 38)).alloc (.cells (cc J) 36) := ⟨_, rfl⟩
 obtain ⟨hB, q0, q1, _⟩ := zdb w _ _ _ _ W0 hW0
 have A : Hid (Gv w W0 w.heap.size x g) := ⟨q0, h.keep hB, hB⟩
 have Q : Hid (W0.heap[w.heap.size + 1]? = some (.cells (cc J) 36 (0, 0))) := q1
 have HW := Lib.hid hW0
 obtain ⟨i, hi⟩ : ∃ i, i = zgz g := ⟨_, rfl⟩
 obtain ⟨k, hk⟩ : ∃ k, k = z5x g := ⟨_, rfl⟩
 obtain ⟨B, hBd⟩ : ∃ B, B = zli g := ⟨_, rfl⟩
 obtain ⟨z, hz⟩ : ∃ z, z = zr0 g := ⟨_, rfl⟩
 rw [← hz]
 have HFd : Hid (∀ W, LaidG W x g → Calls Tryz.prog 21 #[.agg (tr ⟨x.t.n⟩), .agg (rc g.fin.root)] W fun e w' => e = .returned (.int .i64 i) ∧ Below W.heap.size W w') := fun W hh => by rw [hi]; exact zdh x.t.n g.t g.fin.root W hh.t
 have HLe : Hid (∀ W, LaidG W x g → Calls Tryz.prog 62 #[.agg (tr ⟨x.t.n⟩), .int .u64 (J.epoch.toNat : Int), .int .i64 i] W (ykh B W)) := fun W hh => by rw [hBd, hi, hJ]; exact yp5 x.t.n g.t (zd9 g).epoch.toNat (zgz g) W (zd9 g).epoch.toNat_lt hh.t
 have HFr : Hid (∀ W, LaidG W x g → Calls Tryz.prog 64 #[.agg (tr ⟨x.t.n⟩), .agg (rc J.root), .int .i64 i] W fun e w' => e = .returned (.int .i64 k) ∧ Below W.heap.size W w') := fun W hh => by rw [hk, hi, hJ]; exact ysw x.t.n g.t (zd9 g).root (zgz g) W hh.t
 have HHd : Hid (∀ u W, LaidG W x g → SlE Eboo W u B → Calls Tryz.prog 63 #[.agg (tr ⟨x.t.n⟩), sv x.w, u, .int .i64 k] W fun e w' => e = .returned (.int .i64 z) ∧ Below W.heap.size W w') := fun u W hh hu => by rw [hz, hk]; rw [hBd] at hu; exact yet x.t.n (sv x.w) u g.t g.w (zli g) (z5x g) W hh.t hh.w hu
 clear hW0 hB q0 q1 h hJ hi hk hBd hz
 go_enter Tryz.func31, Tryz.ntmps31
 go_upto_region 1 with fail
 rw [← HW.out]
 have zT := A.out.zT
 have zr := A.out.zr
 go_wp2_with fail
 refine (HFd.out _ A.out.l).mono ?_
 rintro e w3 ⟨rfl, g⟩
 replace A := Lib.hid (A.out.keep g)
 replace Q := Lib.hid (zab g Q.out)
 clear g zT zr HFd
 have zT := A.out.zT
 have ze := zh7 Q.out
 go_wp2_with fail
 refine (HLe.out _ A.out.l).mono ?_
 rintro e w4 ⟨vb, rfl, hob, gg⟩
 replace A := Lib.hid (A.out.keep gg)
 replace Q := Lib.hid (zab gg Q.out)
 obtain ⟨pb, cb, rfl, _⟩ := zar hob
 have SB := Lib.hid hob
 clear gg hob zT ze HLe
 have zT := A.out.zT
 have zw := A.out.zw
 have zr := zdr Q.out
 obtain ⟨nb, hnb⟩ : ∃ n, n = B.length := ⟨_, rfl⟩
 rw [← hnb] at SB ⊢
 clear hnb
 go_upto_region 3 with fail
 have L0 := fun p : Wd w4.drew => za8 zT (by decide) p
 have L1 := fun p : Wd w4.drew => zay zw p
 have L2 := fun p : Wd w4.drew => za8 zr (by decide) p
 clear zT zw zr
 refine zan [10, 11] (by kernel_rfl) (by kernel_rfl) (by kernel_rfl) ?_
 repeat (first | (refine zae rfl rfl _ zaf ?_; (first | go_big_quiet_step (fail) | quiet_step (fail)); refine wpQuiet_nil ?_) | refine zah rfl ?_)
 refine zau rfl rfl rfl zpp #[.agg (tr ⟨x.t.n⟩), .agg (rc J.root), .int .i64 i] rfl ?_
 refine (HFr.out _ (A.out.l.keep (zak (Below.refl _ _) 1))).mono ?_
 rintro e u ⟨rfl, g⟩
 refine ⟨_, rfl, g, ?_⟩
 simp only [Act.put, List.setIfInBounds_toArray, List.set_cons_zero, List.set_cons_succ]
 have GB : Hid (Below w4.heap.size w4 u) := zac (zak (Below.refl _ _) 1) g
 clear g
 repeat (first | (refine zae rfl rfl _ zaf ?_; (first | go_big_quiet_step (fail) | quiet_step (fail)); refine wpQuiet_nil ?_) | refine zah rfl ?_)
 refine zau rfl rfl rfl zpl #[.agg (tr ⟨x.t.n⟩), sv x.w, .slice pb nb cb, .int .i64 k] rfl ?_
 refine (HHd.out _ _ (A.out.l.keep GB.out) (zad GB.out SB.out)).mono ?_
 rintro e u ⟨rfl, g⟩
 refine ⟨_, rfl, g, ?_⟩
 simp only [Act.put, List.setIfInBounds_toArray, List.set_cons_zero, List.set_cons_succ]
 replace GB : Hid (Below w4.heap.size w4 u) := zac GB.out g
 clear g
 repeat (first | (refine zae rfl rfl _ zaf ?_; (first | go_big_quiet_step (fail) | quiet_step (fail)); refine wpQuiet_nil ?_) | refine zah rfl ?_)
 refine zbd ?_
 clear L0 L1 L2
 replace A := Lib.hid (A.out.keep GB.out)
 clear GB
 go_wp2_with fail
 go_ret
 exact ⟨rfl, A.out.g⟩
theorem zmu : ∀ args w, (callFunc 31 args).run Tryz.prog w = .ok (.enter 31 args) w := zbe Tryz.func31 (by kernel_rfl) (by kernel_rfl)
theorem zte {cnt : Lk → Bool} {ls : List Lk} : ∀ (f : Nat) (js : List Ck), (zex cnt ls f js).length ≤ js.length + f
 | 0, js => Nat.le_refl _
 | f + 1, js => by
  cases e : zcs cnt ls js with
  | none => simp only [zex, e]; omega
  | some k =>
   simp only [zex, e]
   have := zte (cnt := cnt) (ls := ls) f (js ++ [k.t])
   rw [List.length_append, List.length_singleton] at this
   omega
theorem z6n {l : List Nd} {ls : List Lk} {bal : List UInt64} {js : List Ck} : (zc5 l ls bal js).length ≤ js.length + ls.length := by
 unfold zc5
 split
 ·
  exact zte _ _
 ·
  omega
section
variable {e : Eg}
theorem zyd (h : MayS' e) (hj : e.j.length ≤ 1000) : zcv e := by
 have h1 := (zer.1 h.bal).2.1
 have h2 := (zhm.1 h.late).1
 have h3 := (zd1.1 h.k).2
 have h4 := h.t.le
 exact ⟨by omega, by omega, by rw [h.vl]; omega, by rw [h.w, zrp h.fit]; omega, by omega, by omega, hj⟩
theorem yjd (h : MayS' e) {a : Aa} (hf : fitG e a = 0) : (ctG e a).j.length ≤ e.j.length + 16 := by
 have hg := ct_G h hf
 unfold ctG at hg ⊢
 split at hg
 ·
  rename_i he
  rw [if_pos he]
  have h3 := (zd1.1 hg.k).2
  have := z6n (l := e.t) (ls := ctK e a) (bal := e.bal) (js := e.j)
  have h3' : (ctK e a).length ≤ 16 := h3
  show (zc5 e.t (ctK e a) e.bal e.j).length ≤ _
  omega
 ·
  rename_i he; rw [if_neg he]; omega
theorem yna (h : MayS' e) (a : Aa) : (oneG e a).j.length ≤ e.j.length + 16 := by
 unfold oneG
 split
 ·
  rename_i hf; exact yjd h hf
 ·
  omega
theorem yge (xs : List Aa) : ∀ {e : Eg}, MayS' e → (xs.foldl oneG e).j.length ≤ e.j.length + 16 * xs.length := by
 induction xs with
 | nil => intro e _; exact Nat.le_refl _
 | cons a xs ih =>
  intro e h
  have h1 := yna h a
  have h2 := ih (yth h a)
  simp only [List.foldl_cons, List.length_cons]
  omega
theorem yjf (h : MayS' e) (c : Cmd) : (doG e c).j.length ≤ e.j.length + 96 := by
 have h6 := (zhm.1 h.late).1
 cases c with
 | block b => show (blkG e b).j.length ≤ _; unfold blkG; split <;> (show e.j.length ≤ _; omega)
 | att a =>
  show (attG e a).j.length ≤ _
  unfold attG
  split
  ·
   rename_i hf
   split
   ·
    have := yjd h hf.2; omega
   ·
    show e.j.length ≤ _; omega
  ·
   omega
 | tick =>
  show (yij e).j.length ≤ _
  unfold yij
  split
  ·
   rename_i he
   have h1 := yge (dueL e.late (e.now.toNat + 1)) (up_G h (z5v he).2)
   have h2 := yjg (l := e.late) (now := e.now.toNat + 1)
   have h3 : (upG e).j.length = e.j.length := rfl
   omega
  ·
   omega
 | prune =>
  show (prG e).j.length ≤ _
  unfold prG
  split
  ·
   show (e.j.filter _).length ≤ _
   have := List.length_filter_le (zwa (prT e) e.fin) e.j
   omega
  ·
   omega
 | form => show e.j.length ≤ _; omega
 | other => show e.j.length ≤ _; omega
end
open Go.RowKit
section
variable {α : Type} {E : Lie α}
theorem zsp (l : List α) {i : Nat} (hi : i < l.length) : zaq E l = zaq E (l.take i) ++ (E.enc l[i] ++ zaq E (l.drop (i + 1))) := by
 conv => lhs; rw [← List.take_append_drop i l]
 rw [zdy, List.drop_eq_getElem_cons hi, zds]
theorem z46 (l : List α) {i : Nat} (hi : i < l.length) (x : α) : zaq E (l.set i x) = zaq E (l.take i) ++ (E.enc x ++ zaq E (l.drop (i + 1))) := by
 rw [zsp (l.set i x) (i := i) (by rw [List.length_set]; exact hi), List.take_set_of_le (Nat.le_refl _), List.getElem_set_self, List.drop_set_of_lt (by omega)]
theorem zqz {w : World} {base g n cap : Nat} {l : List α} (h : OwnE E w base (.slice (some ⟨g, 0, none⟩) n cap) l) (hl : l.length = n) {i : Nat} (hi : i < n) : wrA w (.pointer (some ⟨g, 0 + i * E.n, none⟩)) E.n = true := by
 subst hl
 obtain ⟨b, off, c, e, _, _, x⟩ := zdm (zat h) (by omega)
 injection e with e _ _
 injection e with e
 injection e with e1 e2
 subst e1 e2
 refine zd8.2 fun j hj => ⟨?_, ?_⟩
 ·
  have hc : (E.enc l[i])[j]? = some ((E.enc l[i])[j]'(by rw [E.len]; exact hj)) := List.getElem?_eq_getElem _
  rw [zpd x hi hc]
  rfl
 ·
  exact World.ownsRow.frozenAt h _
end
open Go.RowKit
theorem zkj {w : World} {p : Option Addr} {n cp : Nat} {l : List Lk} (h : SlE Elk w (.slice p n cp) l) (h0 : 0 < l.length) : ∃ b o, p = some ⟨b, o, none⟩ ∧ b < w.heap.size ∧ w.rangeAt b o (zaq Elk l) := by
 obtain ⟨b, o, c, e, _, q, x⟩ := zdm h h0
 injection e with e1 e2 e3
 exact ⟨b, o, e1, q, x⟩
section
variable {w : World} {b off : Nat} {l : List Lk} {i : Nat}
theorem zqg (h : w.rangeAt b off (zaq Elk l)) (hi : i < l.length) : ldA w (.pointer (some ⟨b, off + i * 67, none⟩)) 67 = some (lk (lkAt l i)) := by
 have := zqb h hi
 rw [zcy hi]
 exact this.trans (by rw [show (Elk.enc l[i]).toArray = lk l[i] from Array.toList_inj.1 (by rw [zqf]; rfl)])
end
structure LkV (W : World) (g : Nat) (x : Lk) : Prop where
 s : ldA W (.pointer (some ⟨g, 0, none⟩)) 33 = some (cc x.s)
 t : ldA W (.pointer (some ⟨g, 33, none⟩)) 33 = some (cc x.t)
 m : W.cell? ⟨g, 66, none⟩ = some (.int .u64 (x.mask.toNat : Int))
 se : W.cell? ⟨g, 0, none⟩ = some (.int .u64 (x.s.epoch.toNat : Int))
 te : W.cell? ⟨g, 33, none⟩ = some (.int .u64 (x.t.epoch.toNat : Int))
 a : ldA W (.pointer (some ⟨g, 0, none⟩)) 67 = some (lk x)
 g : g < W.heap.size
theorem lk_v {W : World} {g : Nat} {x : Lk} (h : W.heap[g]? = some (.cells (lk x) 118 (0, 0))) : LkV W g x :=
 ⟨ygt h, ygu h, z02 h, zr7 h, zjt h, zag h (zhk x), (Array.getElem?_eq_some_iff.1 h).1⟩
structure CkV (W : World) (g : Nat) (x : Ck) : Prop where
 a : ldA W (.pointer (some ⟨g, 0, none⟩)) 33 = some (cc x)
 e : W.cell? ⟨g, 0, none⟩ = some (.int .u64 (x.epoch.toNat : Int))
 g : g < W.heap.size
theorem ck_v {W : World} {g : Nat} {x : Ck} (h : W.heap[g]? = some (.cells (cc x) 36 (0, 0))) : CkV W g x :=
 ⟨zag h (za5 x), zh7 h, (Array.getElem?_eq_some_iff.1 h).1⟩
theorem ymp (w : World) (x : Lk) (b : Nat) (hb : b = w.heap.size) : SlE Elk (w.alloc (.cells (lk x) 118)) (.slice (some ⟨b, 0, none⟩) 1 1) [x] :=
 zej w _ 1 _ _ b rfl hb (by simp [zaq, Elk, zqf])
open Go.RowKit
theorem zh8 {l : List Ck} {i : Nat} (h : i < l.length) : ckAt l i = l[i] := by unfold ckAt; rw [List.getD_eq_getElem?_getD, List.getElem?_eq_getElem h]; rfl
theorem zj4 {w : World} {p : Option Addr} {n cp : Nat} {l : List Ck} (h : SlE Ecc w (.slice p n cp) l) (h0 : 0 < l.length) : ∃ b o, p = some ⟨b, o, none⟩ ∧ b < w.heap.size ∧ w.rangeAt b o (zaq Ecc l) := by
 obtain ⟨b, o, c, e, _, q, x⟩ := zdm h h0
 injection e with e1 e2 e3
 exact ⟨b, o, e1, q, x⟩
section
variable {w : World} {b off : Nat} {l : List Ck} {i : Nat}
theorem zpc (h : w.rangeAt b off (zaq Ecc l)) (hi : i < l.length) : ldA w (.pointer (some ⟨b, off + i * 33, none⟩)) 33 = some (cc (ckAt l i)) := by
 have := zqb h hi
 rw [zh8 hi]
 exact this.trans (by rw [show (Ecc.enc l[i]).toArray = cc l[i] from Array.toList_inj.1 (by rw [zby]; rfl)])
end
@[go_sem ↓] theorem yey (ρ : Operand → Value) (dst : Option Tmp) (x : Operand) (ty : TypeId) (pos : String) (after : Array Edge) (guard : Option (Nat × Bool)) (w : World) (hx : okA 33 (ρ x) = true) :
  (execOp ρ { dst, op := .buildSlice 32 1 #[(0, x)], type := ty, pos, after, guard }).run Tryz.prog w = .ok (.value (.slice (some ⟨w.heap.size, 0, none⟩) 1 1)) (w.alloc (.cells (zf8 (ρ x)) 36)) := by
 obtain ⟨c, hc, hn⟩ : ∃ c, ρ x = .agg c ∧ c.size = 33 := by
  unfold okA at hx
  split at hx
  ·
   rename_i c hc
   rw [Bool.and_eq_true, beq_iff_eq] at hx
   exact ⟨c, hc, hx.1⟩
  ·
   cases hx
 have hp : (1 * 33 > 2 ^ 24) = False := by simp
 have h0 : (1 * 33 = 0) = False := by simp
 unfold execOp
 simp only [Instr.buildSlice, Sem.run_bind, run_underlying Tryz.underlying32, Result.andThen_ok, Tryz.sizeOf36, hp, h0, if_false, zwu, Value.cells]
 simp only [List.map_toArray, List.map_cons, List.map_nil, hc, Instr.fill, Value.cells, hn, Nat.zero_mul]
 simp [zf8]
 rw [zii _ c (by simp [hn])]
 rfl
theorem zj3 (w : World) (x : Ck) (b : Nat) (hb : b = w.heap.size) : SlE Ecc (w.alloc (.cells (cc x) 36)) (.slice (some ⟨b, 0, none⟩) 1 1) [x] :=
 zej w _ 1 _ _ b rfl hb (by simp [zaq, Ecc, zby])
theorem zp3 {w : World} {g : Nat} {c r : Ck} (hg : w.heap[g]? = some (.cells (cc c) 36 (0, 0))) : (stA w (.pointer (some ⟨g, 0, none⟩)) (.agg (cc r))).heap[g]? = some (.cells (cc r) 36 (0, 0)) := by
 rw [zbx hg (by rw [za5, za5]; omega)]
 congr 2
 apply Array.toList_inj.1
 unfold za2
 simp only [List.take_zero, List.nil_append, Nat.zero_add]
 rw [List.drop_of_length_le (by rw [Array.length_toList, za5, za5]; omega), List.append_nil]
theorem yng {g : Eg} (h : zif g ≠ 0) : prG g = g := if_neg h
theorem yj4 {g : Eg} (h : zif g = 0) : prG g = { g with t := prT g, v := prV g, w := wtsL (prT g) (prV g) g.bal, k := g.k.filter (zsb (prT g) g.fin), j := g.j.filter (zwa (prT g) g.fin) } := if_pos h
theorem zxe {g : Eg} (h : mayG g = false) : zif g = 1 := by unfold zif; rw [h]; exact if_neg (by decide)
theorem z3i {g : Eg} (h : mayG g = true) : zif g = 0 := by unfold zif; rw [if_pos h]
theorem z75 {l : List Nd} {k : Nat} (h : k < l.length) : (l.take (k + 1)).map Nd.root = (l.take k).map Nd.root ++ [(nd l k).root] := by
 rw [List.take_succ_eq_append_getElem h, List.map_append]
 unfold nd
 simp [h]
theorem ydm {g : Eg} (h : z0p g ≠ 0) : yij g = g := if_neg h
theorem zxf {g : Eg} (h : mayG g = false) : z0p g = 1 := by unfold z0p; rw [h]; exact if_neg (by decide)
theorem zks {g : Eg} {b : Bk} (h : ze9 g b ≠ 0) : blkG g b = g := if_neg h
theorem yk0 {g : Eg} {b : Bk} (h : ze9 g b = 0) : blkG g b = { g with t := insL g.t b.root b.parent b.slot b.just, w := g.w ++ [0] } := if_pos h
theorem zk8 {g : Eg} {b : Bk} (h : mayG g = false) : ze9 g b = 1 := by unfold ze9; rw [h]; exact if_neg (by decide)
theorem z96 {g : Eg} {b : Bk} (h : mayG g = true) (hn : g.now.toNat < b.slot.toNat) : ze9 g b = 7 := by unfold ze9; rw [if_pos h, if_pos hn]
theorem z95 {g : Eg} {b : Bk} (h : mayG g = true) (hn : ¬ g.now.toNat < b.slot.toNat) (hi : insE g.t b.root b.parent b.slot ≠ 0) : ze9 g b = insE g.t b.root b.parent b.slot := by unfold ze9; rw [if_pos h, if_neg hn, if_neg hi]
theorem z97 {g : Eg} {b : Bk} (h : mayG g = true) (hn : ¬ g.now.toNat < b.slot.toNat) (hi : insE g.t b.root b.parent b.slot = 0) : ze9 g b = if zb0 (insL g.t b.root b.parent b.slot b.just) (zal g.t g.fin.root) g.t.length = true then 0 else 8 := by unfold ze9; rw [if_pos h, if_neg hn, if_pos hi]
theorem yeq {g : Eg} {a : Aa} (h : mayG g = false) : attG g a = g ∧ ylo g a = 1 := by
 unfold attG ylo
 rw [h]
 exact ⟨if_neg (fun e => by cases e.1), if_neg (by decide)⟩
theorem ypk {g : Eg} (h : mayG g = false) : ∀ c : Cmd, doG g c = g ∧ ypx g c = 1
 | .block b => ⟨zks (by rw [zk8 h]; decide), zk8 h⟩
 | .att a => yeq h
 | .tick => ⟨ydm (by rw [zxf h]; decide), zxf h⟩
 | .prune => ⟨yng (by rw [zxe h]; decide), zxe h⟩
 | .form => ⟨rfl, by unfold ypx; rw [h]; exact if_neg (by decide)⟩
 | .other => ⟨rfl, rfl⟩
def zb7 (l : List Nd) : List Rt := l.map Nd.root
def zez (l : List Lt) : List Rt := (l.filter fun x => x.has).map Lt.root
def zix (l : List Lk) : List Rt := l.flatMap fun k => [k.s.root, k.t.root]
def zwe (g : Eg) : List Rt := zez g.v.l ++ zix g.k ++ g.j.map Ck.root
def zkn (g : Eg) : Bool := (decide (g.now.toNat ≤ 1099511627776) && mayA g.late) && decide ((dueL g.late g.now.toNat).length = 0)
def zra (g : Eg) : Bool := decide (∀ r, r ∈ zwe g → r ∈ zb7 g.t)
def z0h (g : Eg) : Bool := decide ((zc5 g.t g.k g.bal g.j).length = g.j.length) && decide (zgn g.t g.k g.bal g.j g.fin = g.fin)
def zim (g : Eg) : Bool := (decide (g.fin ∈ g.j) && decide (g.j.Nodup)) && z0h g
theorem z3x (l : List Nd) (ls : List Lk) (bal : List UInt64) (js : List Ck) : (zc5 l ls bal js).length = js.length ↔ zc5 l ls bal js = js := by
 refine ⟨fun e => ?_, fun e => by rw [e]⟩
 unfold zc5 at *
 split
 ·
  rename_i ht
  rw [if_pos ht] at e
  obtain ⟨ext, h, _⟩ := ztf (cnt := cntB l bal) (ls := ls) ls.length js
  unfold zqm at *
  rw [h] at e ⊢
  rw [List.length_append] at e
  rw [List.length_eq_zero_iff.1 (by omega : ext.length = 0), List.append_nil]
 ·
  rfl
theorem ziu {l : List Nd} (h : MayT l) (r : Rt) : r ∈ zb7 l ↔ inT l r = true := by
 rw [zu0 h]
 unfold zb7
 rw [List.mem_map]
 constructor
 ·
  rintro ⟨a, ha, rfl⟩
  obtain ⟨i, hi, rfl⟩ := List.getElem_of_mem ha
  exact ⟨i, hi, by unfold nd; rw [List.getD_eq_getElem?_getD, List.getElem?_eq_getElem hi]; rfl⟩
 ·
  rintro ⟨i, hi, rfl⟩
  exact ⟨l[i], List.getElem_mem hi, by unfold nd; rw [List.getD_eq_getElem?_getD, List.getElem?_eq_getElem hi]; rfl⟩
theorem zu4 {l : List Lt} {i : Nat} (hi : i < l.length) : lat l i = l[i] := by unfold lat; rw [List.getD_eq_getElem?_getD, List.getElem?_eq_getElem hi]; rfl
theorem ziy {g : Eg} {r : Rt} : r ∈ zwe g ↔ (∃ i, i < g.v.l.length ∧ (lat g.v.l i).has = true ∧ (lat g.v.l i).root = r) ∨ (∃ x, x ∈ g.k ∧ (x.s.root = r ∨ x.t.root = r)) ∨ ∃ c, c ∈ g.j ∧ c.root = r := by
 unfold zwe zez zix
 rw [List.append_assoc, List.mem_append, List.mem_append, List.mem_map, List.mem_flatMap, List.mem_map]
 refine or_congr ?_ (or_congr ?_ Iff.rfl)
 ·
  constructor
  ·
   rintro ⟨x, hx, rfl⟩
   obtain ⟨h1, h2⟩ := List.mem_filter.1 hx
   obtain ⟨i, hi, rfl⟩ := List.getElem_of_mem h1
   exact ⟨i, hi, by rw [zu4 hi]; exact h2, by rw [zu4 hi]⟩
  ·
   rintro ⟨i, hi, h1, rfl⟩
   rw [zu4 hi] at h1 ⊢
   exact ⟨_, List.mem_filter.2 ⟨List.getElem_mem hi, h1⟩, rfl⟩
 ·
  constructor
  ·
   rintro ⟨x, hx, h⟩
   simp only [List.mem_cons, List.not_mem_nil, or_false] at h
   exact ⟨x, hx, h.imp Eq.symm Eq.symm⟩
  ·
   rintro ⟨x, hx, h⟩
   exact ⟨x, hx, by simp only [List.mem_cons, List.not_mem_nil, or_false]; exact h.imp Eq.symm Eq.symm⟩
theorem z27 {l : List Aa} {n : Nat} : (dueL l n).length = 0 ↔ ∀ a, a ∈ l → n ≤ a.slot.toNat := by
 rw [List.length_eq_zero_iff]
 unfold dueL
 rw [List.filter_eq_nil_iff]
 constructor
 ·
  intro h a ha
  have := h a ha
  unfold zr2 at this
  rw [decide_eq_true_iff] at this
  omega
 ·
  intro h a ha
  have := h a ha
  unfold zr2
  rw [decide_eq_true_iff]
  omega
theorem mayE (g : Eg) : mayG g = (((((fitB g.t g.v g.bal && decide (g.w = wtsL g.t g.v g.bal)) && mayL g.k) && zkn g) && zra g) && zim g) := by
 rw [Bool.eq_iff_iff, zhx]
 unfold zkn zra zim z0h
 simp only [Bool.and_eq_true, decide_eq_true_iff]
 constructor
 ·
  intro h
  refine ⟨⟨⟨⟨⟨h.fit, h.w⟩, h.k⟩, ⟨h.now, h.late⟩, z27.2 h.slots⟩, fun r hr => ?_⟩, ⟨h.fin, h.nod⟩, (z3x _ _ _ _).2 h.more, h.next⟩
  rw [ziu h.t]
  rcases ziy.1 hr with ⟨i, hi, h1, rfl⟩ | ⟨x, hx, rfl | rfl⟩ | ⟨c, hc, rfl⟩
  ·
   exact h.inV i hi h1
  ·
   exact (h.inK x hx).1
  ·
   exact (h.inK x hx).2
  ·
   exact h.inJ c hc
 ·
  rintro ⟨⟨⟨⟨⟨h1, h2⟩, h3⟩, ⟨h4, h5⟩, h6⟩, h7⟩, ⟨h8, h9⟩, h10, h11⟩
  obtain ⟨f1, f2, f3, f4⟩ := zgm.1 h1
  have hin : ∀ r, r ∈ zwe g → inT g.t r = true := fun r hr => (ziu f1 r).1 (h7 r hr)
  exact ⟨f1, f3, f2, h5, h3, f4, h4, h2, z27.1 h6, h8, h9, fun c hc => hin _ (ziy.2 (.inr (.inr ⟨c, hc, rfl⟩))), fun i hi e => hin _ (ziy.2 (.inl ⟨i, hi, e, rfl⟩)),
   fun x hx => ⟨hin _ (ziy.2 (.inr (.inl ⟨x, hx, .inl rfl⟩))), hin _ (ziy.2 (.inr (.inl ⟨x, hx, .inr rfl⟩)))⟩, (z3x _ _ _ _).1 h10, h11⟩
section
open Go.RowKit
theorem ymc : (Tryz.prog.info? 34).map (fun i => (i.zero, i.size, i.bytes)) = some (some (.agg (rc zr)), 32, 32) := by kernel_rfl
theorem Krt : Known Tryz.prog Ert 130 := ⟨Tryz.underlying130, .agg (rc zr), 32, ymc, by show ((rc zr)).size = _; exact zav _, by decide⟩
section
open Go.WideShapes Go.ChangeShapes
variable {H : Type} {enc : TypeId × Value → H} {w : World} {base : Nat} {sp : Nat → Bool} {held : Bool}
end
end
@[go_sem ↓] theorem ye1 (ρ : Operand → Value) (dst : Option Tmp) (x : Operand) (ty : TypeId) (pos : String) (after : Array Edge) (guard : Option (Nat × Bool)) (w : World) (hx : okA 32 (ρ x) = true) :
  (execOp ρ { dst, op := .buildSlice 130 1 #[(0, x)], type := ty, pos, after, guard }).run Tryz.prog w = .ok (.value (.slice (some ⟨w.heap.size, 0, none⟩) 1 1)) (w.alloc (.cells (zf8 (ρ x)) 34)) := by
 obtain ⟨c, hc, hn⟩ : ∃ c, ρ x = .agg c ∧ c.size = 32 := by
  unfold okA at hx
  split at hx
  ·
   rename_i c hc
   rw [Bool.and_eq_true, beq_iff_eq] at hx
   exact ⟨c, hc, hx.1⟩
  ·
   cases hx
 have hp : (1 * 32 > 2 ^ 24) = False := by simp
 have h0 : (1 * 32 = 0) = False := by simp
 unfold execOp
 simp only [Instr.buildSlice, Sem.run_bind, run_underlying Tryz.underlying130, Result.andThen_ok, Tryz.sizeOf34, hp, h0, if_false, zi3, Value.cells]
 simp only [List.map_toArray, List.map_cons, List.map_nil, hc, Instr.fill, Value.cells, hn, Nat.zero_mul]
 simp [zf8]
 rw [zii _ c (by simp [hn])]
 rfl
theorem z1t (w : World) (x : Rt) (b : Nat) (hb : b = w.heap.size) : SlE Ert (w.alloc (.cells (rc x) 34)) (.slice (some ⟨b, 0, none⟩) 1 1) [x] :=
 zej w _ 1 _ _ b rfl hb (by simp [zaq, Ert])
def rtA (l : List Rt) (i : Nat) : Rt := l.getD i zr
theorem zy5 {l : List Rt} {i : Nat} (h : i < l.length) : rtA l i = l[i] := by unfold rtA; simp [h]
theorem yc0 {w : World} {p : Option Addr} {n cp : Nat} {l : List Rt} (h : SlE Ert w (.slice p n cp) l) (h0 : 0 < l.length) : ∃ b o, p = some ⟨b, o, none⟩ ∧ b < w.heap.size ∧ w.rangeAt b o (zaq Ert l) := by
 obtain ⟨b, o, c, e, _, q, x⟩ := zdm h h0
 injection e with e1 e2 e3
 exact ⟨b, o, e1, q, x⟩
theorem yj9 {w : World} {b off : Nat} {l : List Rt} (h : w.rangeAt b off (zaq Ert l)) {i : Nat} (hi : i < l.length) : ldA w (.pointer (some ⟨b, off + i * 32, none⟩)) 32 = some (rc (rtA l i)) := by
 have := zqb h hi
 rw [zy5 hi]
 exact this
theorem ynq {l : List Rt} {x : Rt} {j : Nat} (hj : j < l.length) (h : x ∉ l.take j) (hx : ¬ x = rtA l j) : x ∉ l.take (j + 1) := by
 rw [List.take_succ_eq_append_getElem hj, List.mem_append, List.mem_singleton, not_or]
 rw [zy5 hj] at hx
 exact ⟨h, hx⟩
theorem yma (p : Option Addr) (n cp : Nat) (l : List Rt) (x : Rt) (w : World) (h : SlE Ert w (.slice p n cp) l) (hl : l.length = n) (hn : n ≤ 9000) :
  Calls Tryz.prog 127 #[.slice p n cp, .agg (rc x)] w fun e w' => ∃ r : Int, e = .returned (.int .i64 r) ∧ decide (0 ≤ r) = decide (x ∈ l) ∧ Below w.heap.size w w' := by
 have HS := Lib.hid h
 have HL := Lib.hid hl
 have HN := Lib.hid hn
 obtain ⟨W0, hW0⟩ : ∃ W0, W0 = w.alloc (.cells (rc x) 34) := ⟨_, rfl⟩
 have HB : Hid (Below w.heap.size w W0) := by rw [hW0]; exact below1
 have M0 : Hid (ldA W0 (.pointer (some ⟨w.heap.size, 0, none⟩)) 32 = some (rc x)) := by rw [hW0]; exact zag (heap_alloc_last w _) (zav x)
 have HW := Lib.hid hW0
 clear h hl hn hW0
 go_enter Tryz.func127, Tryz.ntmps127
 go_upto_region 1 with fail
 rw [← HW.out]
 go_wp2_with fail
 go_loopw [8] (fun k wr => ∃ j : Nat, j ≤ n ∧ k = .int .i64 (j : Int) ∧ x ∉ l.take j ∧ Below W0.heap.size W0 wr) (fun k _ => n - (intOf k).toNat)
 case atStart => exact ⟨0, Nat.zero_le _, rfl, by simp, Below.refl _ _⟩
 case round =>
  obtain ⟨j, hj, rfl, hx, hb⟩ := hrel
  have HX := Lib.hid hx
  have HG := Lib.hid (zac HB.out hb)
  have y0 := keep hb M0.out
  have HB2 := Lib.hid hb
  clear hx hb
  by_cases hlt : j < n
  ·
   obtain ⟨b1, o1, rfl, q1, x1⟩ := yc0 HS.out (by have := HL.out; omega)
   have y1 : ldA wr (.pointer (some ⟨b1, o1 + j * 32, none⟩)) 32 = some (rc (rtA l j)) := keep HG.out (yj9 x1 (by have := HL.out; omega))
   have i0 : (0 : Int) ≤ (j : Int) := by omega
   have i1 : (j : Int) < (n : Int) := by omega
   have u1 : (j : Int) + 1 < 10000 := by have := HN.out; omega
   have HLT := Lib.hid hlt
   obtain ⟨z, hz⟩ : ∃ z, z = rtA l j := ⟨_, rfl⟩
   rw [← hz] at y1
   have HZ := Lib.hid hz
   clear hlt q1 x1 hz
   by_cases he : x = z
   ·
    have t1 : eqB x z = true := (zie _ _).2 he
    have hX : Hid (decide (0 ≤ (j : Int)) = decide (x ∈ l)) := by
     show _ = _
     rw [decide_eq_true (by omega)]
     refine (decide_eq_true ?_).symm
     rw [he, HZ.out, zy5 (by have := HL.out; have := HLT.out; omega)]
     exact List.getElem_mem _
    clear he
    go_wp2_with fail
    go_quiet (fail)
    go_wp2_with fail
    go_ret
    exact ⟨_, rfl, hX.out, zak HG.out _⟩
   ·
    have t1 : eqB x z = false := by rw [Bool.eq_false_iff]; exact fun e => he ((zie _ _).1 e)
    have HE := Lib.hid (ynq (by have := HL.out; have := HLT.out; omega) HX.out (by rw [← HZ.out]; exact he))
    clear he
    go_wp2_with fail
    go_quiet (fail)
    go_wp2_with fail
    go_roundw
    case rel => exact ⟨j + 1, HLT.out, by go_num, HE.out, zak HB2.out _⟩
    case measure => simp [intOf]; have := HLT.out; omega
  ·
   obtain rfl : j = n := by omega
   have hX : Hid (decide ((0 : Int) ≤ -1) = decide (x ∈ l)) := by
    show _ = _
    rw [decide_eq_false (by omega)]
    refine (decide_eq_false ?_).symm
    have := HX.out
    rwa [List.take_of_length_le (by have := HL.out; omega)] at this
   clear hlt
   go_wp2_with fail
   go_ret
   exact ⟨_, rfl, hX.out, HG.out⟩
theorem zmm (v : Value) (l : List Rt) (x : Rt) (w : World) (h : SlE Ert w v l) (hn : l.length ≤ 9000) :
  Calls Tryz.prog 92 #[v, .agg (rc x)] w fun e w' => e = .returned (.bool (decide (x ∈ l))) ∧ Below w.heap.size w w' := by
 obtain ⟨p, cp, rfl, _⟩ := zar h
 obtain ⟨n, hl⟩ : ∃ n, l.length = n := ⟨_, rfl⟩
 rw [hl] at h hn ⊢
 have HC := Lib.hid (fun W (g : Below w.heap.size w W) => yma p n cp l x W (zad g h) hl hn)
 obtain ⟨res, hres⟩ : ∃ res, res = decide (x ∈ l) := ⟨_, rfl⟩
 rw [← hres]
 rw [← hres] at HC
 obtain ⟨W0, hW0⟩ : ∃ W0, W0 = w.alloc (.cells (rc x) 34) := ⟨_, rfl⟩
 have HB : Hid (Below w.heap.size w W0) := by rw [hW0]; exact below1
 have y0 : ldA W0 (.pointer (some ⟨w.heap.size, 0, none⟩)) 32 = some (rc x) := by rw [hW0]; exact zag (heap_alloc_last w _) (zav x)
 have HW := Lib.hid hW0
 clear h hl hn hres hW0
 go_enter Tryz.func92, Tryz.ntmps92
 go_upto_region 1 with fail
 rw [← HW.out]
 go_wp2_with fail
 refine (HC.out _ HB.out).mono ?_
 rintro e w1 ⟨r, rfl, hr, g⟩
 have G := Lib.hid (zac HB.out g)
 have HR := Lib.hid hr
 obtain ⟨q, hq⟩ : ∃ q, q = decide (0 ≤ r) := ⟨_, rfl⟩
 have t1 : decide (0 ≤ r) = q := hq.symm
 have HQ : Hid (q = res) := hq.trans hr
 clear g hr hq HR y0
 go_wp2_with fail
 go_ret
 exact ⟨by rw [← HQ.out]; first | done | rfl, G.out⟩
end Go.Proofs.YtkalofboioffiaaGreat
