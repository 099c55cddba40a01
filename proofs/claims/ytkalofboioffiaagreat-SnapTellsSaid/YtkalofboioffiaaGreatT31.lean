import Derived.Test.YtkalofboioffiaaGreatT30
import Derived.WalkMore
namespace Go.Proofs.YtkalofboioffiaaGreat
open Go.RowKit
set_option maxRecDepth 200000
set_option maxHeartbeats 64000000
section
open Go.Shelf
open Go.RowKit Go.Shelf
attribute [local go_sem] Oper.semAt_some
@[local go_sem ↓ high] theorem yd8 {P : Program} (l : Option Nat) (ρ : Operand → Value) (o : Oper) (w : World) (h : ∀ c, o.op ≠ .defer c) : (Oper.semAt l ρ o).run P w = (execOp ρ o).run P w := by rw [Oper.semAt_eq l ρ o h]
structure Mow (s1 bo bt bm N : Nat) (w : World) (v : Value) (k S : List Ck) (W : World) : Prop where
 box : W.heap[bo]? = some (.cells #[v] 32 (0, 0))
 mbx : W.heap[bt]? = some (.cells #[.map (some bm)] 188 (0, 0))
 own : OwnE Ecc W s1 v k
 off : ∀ q, v.ownBlock = some q → q ≠ bo ∧ q ≠ bt
 set : OwnsC W bm N S
 old : Below s1 w W
section
variable {s1 bo bt bm N : Nat} {w W W' : World} {v : Value} {k S : List Ck}
theorem Mow.keep (h : Mow s1 bo bt bm N w v k S W) (g : Below W.heap.size W W') (hs : s1 ≤ W.heap.size) : Mow s1 bo bt bm N w v k S W' :=
 ⟨zac g h.box, zac g h.mbx, za5 g h.own, h.off, h.set.keep g, h.old.trans (g.mono hs)⟩
theorem Mow.tn {bs : Nat → Prop} (h : Mow s1 bo bt bm N w v k S W) (t : Tn bs W W') (hs : s1 ≤ W.heap.size) (h1 : ∀ q, bs q → s1 ≤ q ∧ q ≠ bo ∧ q ≠ bt ∧ q ≠ bm ∧ v.ownBlock ≠ some q) : Mow s1 bo bt bm N w v k S W' :=
 ⟨t.heap h.box (fun e => (h1 _ e).2.1 rfl), t.heap h.mbx (fun e => (h1 _ e).2.2.1 rfl), t.own h.own (fun q hq e => (h1 q e).2.2.2.2 hq), h.off, h.set.blk (t.block bm h.set.lt (fun e => (h1 _ e).2.2.2.1 rfl)), t.below h.old (fun q e => (h1 q e).1) hs⟩
theorem zqd (h : OwnE Ecc W s1 v k) (ho : OwnsC W bm N S) : v.ownBlock ≠ some bm := fun e => by
 obtain ⟨n, k', _, _, es, clock, hb, _⟩ := ho
 have := zjh h e hb
 cases this
theorem Mow.app (h : Mow s1 bo bt bm N w v k S W) (o1 : s1 ≤ bo) (o2 : bo < bm) (o3 : bm < bt) {c : Ck} {v' : Value} (ho : OwnE Ecc W' s1 v' (k ++ [c])) (hg : Gr W v W' v') : Mow s1 bo bt bm N w v' (k ++ [c]) S (W'.setCell ⟨bo, 0, none⟩ v') := by
 have hbt := (Array.getElem?_eq_some_iff.1 h.mbx).1
 have e1 : ∀ q, v.ownBlock = some q → q ≠ bm := fun q hq e => zqd h.own h.set (by rw [hq, e])
 have hoff : ∀ q, v'.ownBlock = some q → q ≠ bo ∧ q ≠ bt := fun q hq => by
  rcases hg.2 with e | e
  ·
   exact h.off q (e.symm.trans hq)
  ·
   have := e q hq; omega
 have hB : W'.heap[bo]? = some (.cells #[v] 32 (0, 0)) := hg.heap h.box (fun e => (h.off _ e).1 rfl)
 refine ⟨zvq hB v', ?_, zc8 ho fun b _ hb => Below.heap_setCell _ _ _ _ (fun e => (hoff b hb).1 e), hoff, ?_, ?_⟩
 ·
  exact (Below.heap_setCell _ _ _ _ (show bt ≠ bo by omega)).trans (hg.heap h.mbx (fun e => (h.off _ e).2 rfl))
 ·
  exact (h.set.blk (hg.block h.set.lt (fun e => e1 _ e rfl))).blk (Below.heap_setCell _ _ _ _ (show bm ≠ bo by omega))
 ·
  exact (h.old.trans (hg.own h.own (by omega))).setCell (p := ⟨bo, 0, none⟩) o1 v'
theorem Mow.put (h : Mow s1 bo bt bm N w v k S W) (o1 : s1 ≤ bo) (o2 : bo < bm) (o3 : bm < bt) {c : Ck} (ho : OwnsC W' bm (N + 1) (S ++ [c])) (hg : W.grownBy W' (some bm)) : Mow s1 bo bt bm (N + 1) w v k (S ++ [c]) W' :=
 ⟨(hg.block bo (Array.getElem?_eq_some_iff.1 h.box).1 (fun e => by cases e; omega)).trans h.box, (hg.block bt (Array.getElem?_eq_some_iff.1 h.mbx).1 (fun e => by cases e; omega)).trans h.mbx,
  zc8 h.own fun b hb hk => hg.block b hb (fun e => by cases e; exact zqd h.own h.set hk), h.off, ho, h.old.grown hg (by have := (Array.getElem?_eq_some_iff.1 h.box).1; omega) (fun q e => by cases e; omega)⟩
end
theorem zwx {α : Type} {E : Lie α} {W : World} {base : Nat} {v : Value} {l : List α} (h : OwnE E W base v l) {q : Nat} {c : Array Value} {t : TypeId} (hb : W.heap[q]? = some (.cells c t (0, 0))) (ht : t ≠ E.t) : v.ownBlock ≠ some q := fun e => by
 rcases h.2 with ⟨rfl, _⟩ | ⟨g, cap, cur, rfl, _, hg, _⟩
 ·
  cases e
 ·
  have e : g = q := by injection e
  subst e
  rw [hg] at hb
  injection hb with hb
  injection hb with _ h2
  exact ht h2.symm
theorem ygd {s1 bo bt bm N B : Nat} {w : World} (h0 : s1 ≤ B) (h1 : bo < B) (h2 : bt < B) (h3 : bm < B) {v : Value} {k S : List Ck} {W W' : World} {bs : Nat → Prop} (h : Mow s1 bo bt bm N w v k S W) (hs : s1 ≤ W.heap.size) (t : Tn bs W W') (hb : ∀ q, bs q → B ≤ q ∧ ∃ o, W.heap[q]? = some o ∧ o.isCells = false) : Mow s1 bo bt bm N w v k S W' :=
 h.tn t hs fun q hq => by
  obtain ⟨hB, o, ho, hc⟩ := hb q hq
  refine ⟨by omega, by omega, by omega, by omega, fun e => ?_⟩
  rw [zjh h.own e ho] at hc
  cases hc
def z1e (W : World) (b : Nat) : Nat := match W.cell? ⟨b, 0, none⟩ with | some (.slice _ n _) => n | _ => 0
theorem zts {s1 bo bt bm N : Nat} {w W : World} {v : Value} {k S : List Ck} (h : Mow s1 bo bt bm N w v k S W) : z1e W bo = k.length := by
 obtain ⟨p, c, rfl⟩ := zb4 h.own
 unfold z1e
 rw [(zam h.box).1]
def MorR (l : List Nd) (ls : List Lk) (bal : List UInt64) (js : List Ck) (w : World) (e : Ending) (w' : World) : Prop := ∃ v, e = .returned v ∧ OwnE Ecc w' w.heap.size v (zc3 l ls bal js) ∧ Below w.heap.size w w'
theorem z16 (s : SlV) (u vb vj : Value) (l : List Nd) (ls : List Lk) (bal : List UInt64) (js : List Ck) (w : World) (h : SlE Ene w (sv s) l) (h1 : SlE Elk w u ls) (h2 : SlE Enum w vb bal) (h3 : SlE Ecc w vj js) (hn : js.length ≤ 2000) (hm : ls.length ≤ 1000) :
  Calls Tryz.prog 128 #[.agg (tr ⟨s⟩), u, vb, vj] w (MorR l ls bal js w) := by
 have HC := Lib.hid (fun W (g : Below w.heap.size w W) => zpl s u vb l ls bal W (zad g h) (zad g h1) (zad g h2) hm)
 have HG1 := Lib.hid (fun W (g : Below w.heap.size w W) => yfk vj js W (zad g h3) hn)
 have HCl := Lib.hid (fun W (g : Below w.heap.size w W) => yeu vj js W (zad g h3) (by omega))
 obtain ⟨r, hr⟩ : ∃ r, r = zc3 l ls bal js := ⟨_, rfl⟩
 have HRr : Hid (∀ v w', OwnE Ecc w' w.heap.size v r → Below w.heap.size w w' → MorR l ls bal js w (.returned v) w') := fun v w' h1 h2 => ⟨v, rfl, by rw [← hr]; exact h1, h2⟩
 obtain ⟨L, hL⟩ : ∃ L, L = cntL l ls bal := ⟨_, rfl⟩
 have HNew : Hid (∀ (k : List Ck) (ys : List Lk) (x : Lk), ys ++ [x] <+: L → (∀ y ∈ ys, zfb k y = false) → zfb k x = true → zc3 l ls bal (k ++ [x.t]) = zc3 l ls bal k ∧ zlg ls (k ++ [x.t]) < zlg ls k) := fun k ys x => by rw [hL]; exact ybg
 have HOld : Hid (∀ k : List Ck, (∀ y ∈ L, zfb k y = false) → zc3 l ls bal k = k) := fun k => by rw [hL]; exact ybh
 have HOp : Hid (zlg ls js ≤ ls.length) := zwv js
 have HLl : Hid (L.length ≤ 1000) := by show _ ≤ _; rw [hL]; exact Nat.le_trans (zyg _ _ _) hm
 have HLe := Lib.hid hL
 have HRe := Lib.hid hr
 have HN := Lib.hid hn
 have HM := Lib.hid hm
 obtain ⟨W0, hW0⟩ : ∃ W0, W0 = w.alloc (.cells (tr ⟨s⟩) 24) := ⟨_, rfl⟩
 have HB : Hid (Below w.heap.size w W0) := by rw [hW0]; exact below1
 have T0 : Hid (W0.heap[w.heap.size]? = some (.cells (tr ⟨s⟩) 24 (0, 0))) := by rw [hW0]; exact heap_alloc_last w _
 have HW := Lib.hid hW0
 have z0 := (zai T0.out).2.1
 clear hW0 h h1 h2 h3 hn hm hr hL
 refine callsIn_wide.1 (callsIn_of_wp_marks (n := 3) Tryz.func128 rfl trivial (wpIn_wide.2 ?_))
 simp only [Tryz.ntmps128, List.size_toArray, List.length_cons, List.length_nil, Nat.reduceAdd, Nat.reduceSub, Array.replicate_succ, Array.replicate_zero, List.push_toArray, List.append_toArray, List.nil_append, List.cons_append]
 go_upto_region 1 with fail
 rw [← HW.out]
 go_step3
 go_wp2_with fail
 refine (HC.out W0 HB.out).mono ?_
 rintro e w1 ⟨b, m, c, q, rfl, hb, hlm, ho, hge, g⟩
 rw [← HLe.out] at hlm ho
 have G1 := Lib.hid (zab HB.out g)
 have HZ0 : Hid (w.heap.size ≤ w1.heap.size) := G1.out.size
 have HSt := Lib.hid (zk6 2 w1.heap.size w1.heap.size w1.heap.size b m c q L w1 (Nat.le_refl _) (Nat.le_refl _) (by rw [← hlm]; exact HLl.out) hlm (Array.getElem?_eq_some_iff.1 hb).1 (Nat.ne_of_lt (Array.getElem?_eq_some_iff.1 hb).1) hb (za2 ho) (fun b' o' e hpos => by
  have := zc4 ho (b := b') (by rw [e]; rfl)
  omega))
 clear g hb hlm ho hge z0 HC HB T0 HW
 go_wp2_with fail
 refine (HCl.out w1 G1.out).mono ?_
 rintro e w2 ⟨v1, rfl, ho, g⟩
 have HO := Lib.hid ho
 have G2 := Lib.hid g
 clear ho g HCl
 obtain ⟨pv, cv, hv1⟩ := zb4 HO.out
 have HOn : Hid (v1.oneCell' = true) := by show _ = _; rw [hv1]; rfl
 have HVo : Hid (∀ k, v1.ownBlock = some k → w1.heap.size ≤ k ∧ k < w2.heap.size) := fun k hk => zc4 HO.out hk
 obtain ⟨W3, hW3⟩ : ∃ W3, W3 = w2.alloc (.cells #[v1] 32) := ⟨_, rfl⟩
 have g3 : Below w2.heap.size w2 W3 := by rw [hW3]; exact below1
 have BO : Hid (W3.heap[w2.heap.size]? = some (.cells #[v1] 32 (0, 0))) := by show _ = _; rw [hW3]; exact heap_alloc_last w2 _
 have O3 : Hid (OwnE Ecc W3 w1.heap.size v1 js) := za5 g3 HO.out
 have G3 : Hid (Below w1.heap.size w1 W3) := zab G2.out g3
 have HW3 := Lib.hid hW3
 obtain ⟨bo, hbo⟩ : ∃ bo, bo = w2.heap.size := ⟨_, rfl⟩
 have HZ2 : Hid (w1.heap.size ≤ bo) := by show _ ≤ _; rw [hbo]; exact G2.out.size
 rw [hv1]
 rw [hv1] at HW3
 clear hW3 g3
 go_upto_region 3 with fail
 rw [← HW3.out, ← hbo]
 rw [← hbo] at BO HVo
 clear HW3 hbo G2 HO
 go_wp2_with fail
 refine (HG1.out W3 (G1.out.trans (G3.out.mono HZ0.out))).mono ?_
 rintro e w4 ⟨rfl, hown, g⟩
 have HZ3 : Hid (bo < W3.heap.size) := (Array.getElem?_eq_some_iff.1 BO.out).1
 have OS := Lib.hid hown
 replace BO := Lib.hid (zac g BO.out)
 replace O3 := Lib.hid (za5 g O3.out)
 have G4 : Hid (Below w1.heap.size w1 w4) := zab G3.out g
 obtain ⟨bm, hbm⟩ : ∃ bm, bm = W3.heap.size := ⟨_, rfl⟩
 rw [← hbm] at OS HZ3 ⊢
 clear g hown hbm HG1 G3
 obtain ⟨W5, hW5⟩ : ∃ W5, W5 = w4.alloc (.cells #[.map (some bm)] 188) := ⟨_, rfl⟩
 have g5 : Below w4.heap.size w4 W5 := by rw [hW5]; exact below1
 have HZ4 : Hid (bm < w4.heap.size) := OS.out.lt
 have HZ5 : Hid (W5.heap.size = w4.heap.size + 1) := by show _ = _; rw [hW5]; exact World.size_alloc _ _
 have MO : Hid (Mow w1.heap.size bo w4.heap.size bm js.length w1 v1 js js W5) := ⟨zac g5 BO.out, by rw [hW5]; exact heap_alloc_last w4 _, za5 g5 O3.out, fun q hq => by have := HVo.out q hq; have := HZ3.out; have := HZ4.out; omega, OS.out.keep g5, zab G4.out g5⟩
 obtain ⟨bt, hbt⟩ : ∃ bt, bt = w4.heap.size := ⟨_, rfl⟩
 rw [← hbt] at MO HZ4 HZ5
 have HW5 := Lib.hid hW5
 clear hW5 g5 BO O3 OS G4 HVo
 go_wp2_with fail
 rw [← HW5.out, ← hbt]
 clear HW5 hbt
 go_step3
 go_wp2_with fail
 rw [hv1] at MO
 clear hv1 HOn
 obtain ⟨s1, hs1⟩ : ∃ s1, s1 = w1.heap.size := ⟨_, rfl⟩
 rw [← hs1] at MO HSt HZ0 HZ2
 have HSZ : Hid (w.heap.size ≤ s1 ∧ s1 ≤ bo ∧ bo < bm ∧ bm < bt ∧ bt < W5.heap.size) := ⟨HZ0.out, HZ2.out, HZ3.out, HZ4.out, by have := HZ5.out; have := (Array.getElem?_eq_some_iff.1 MO.out.mbx).1; omega⟩
 have HS1 := Lib.hid hs1
 clear HZ0 HZ2 HZ3 HZ4 HZ5 hs1
 refine wp_loop (fun a W => ∃ (v : Value) (k : List Ck) (u21 : Value) (ds : List Nat), Mow s1 bo bt bm k.length w1 v k k W ∧ k.length + zlg ls k ≤ js.length + ls.length ∧ zc3 l ls bal k = r ∧ W5.heap.size ≤ W.heap.size ∧ (∀ D ∈ ds, W.heap[D]? = some (.deferred (some [])) ∧ W5.heap.size ≤ D) ∧ ds.Nodup ∧
   a = { tmps := #[.agg (tr ⟨s⟩), u, vb, vj, .pointer (some ⟨w.heap.size, 0, none⟩), undef, undef, undef, .slice none 0 0, .func (.func 203) #[] #[.pointer (some ⟨b, 0, none⟩)], .pointer (some ⟨bo, 0, none⟩), .pointer (some ⟨bt, 0, none⟩), undef, .agg (tr ⟨s⟩), u, vb, .func (.func 203) #[] #[.pointer (some ⟨b, 0, none⟩)], vj, .slice pv js.length cv, vj, .map (some bm), u21, undef, undef, undef, undef, undef, undef, undef, undef, undef, undef, undef, undef, undef, undef, undef, undef, undef, undef, undef, undef, undef, undef], defers := ds.map mkD })
  (fun _ W => js.length + ls.length - z1e W bo) ?start ?round
 case start =>
  exact ⟨_, js, _, [], MO.out, by have := HOp.out; omega, HRe.out.symm, Nat.le_refl _, fun D hD => (by cases hD), List.nodup_nil, rfl⟩
 case round =>
  rintro a wr ⟨v, k, u21, ds, hmo, hlen, heq, hsz, hds, hnd, rfl⟩
  have M := Lib.hid hmo
  have HLn := Lib.hid hlen
  have HE := Lib.hid heq
  have HSW := Lib.hid hsz
  have HDS := Lib.hid hds
  have HND := Lib.hid hnd
  have HMu : Hid (z1e wr bo = k.length) := zts hmo
  have HKl : Hid (k.length ≤ 4000) := by show _ ≤ _; have := HN.out; have := HM.out; omega
  clear hmo hlen heq hsz hds hnd
  go_wp2_with fail
  refine (wpIn_wide (n := 3)).1 ?_
  refine wpIn_rangeFunc_ownH (w0 := w1) rfl (by omega) (gf := 203) (lb := #[.pointer (some ⟨b, 0, none⟩)]) rfl trivial zea
   HSt.out zyd (zyc (Nat.le_refl _) (by have := HSZ.out; have := HSW.out; omega)) (by rw [← HS1.out]; exact M.out.old) (fun _ => rfl)
   (fun pre W => (∀ y ∈ pre, zfb k y = false) ∧ Below wr.heap.size wr W)
   (fun c pre W => (c = .exit 1 ∧ ∃ ys x, pre = ys ++ [x] ∧ (∀ y ∈ ys, zfb k y = false) ∧ zfb k x = true ∧ ∃ v', Mow s1 bo bt bm (k.length + 1) w1 v' (k ++ [x.t]) (k ++ [x.t]) W) ∧ wr.heap.size ≤ W.heap.size ∧ ∀ D ∈ ds, W.heap[D]? = some (.deferred (some [])))
   (z64 _ (Nat.le_refl _)) (fun c => ?ownx)
   ⟨fun _ h => absurd h List.not_mem_nil, Below.refl _ _⟩
   (fun (x : Lk) (a' : Act) (W : World) => ∃ b6 : Nat, a' = { tmps := #[.agg (tr ⟨s⟩), u, vb, vj, .pointer (some ⟨w.heap.size, 0, none⟩), undef, undef, undef, .slice none 0 0, .func (.func 203) #[] #[.pointer (some ⟨b, 0, none⟩)], .pointer (some ⟨bo, 0, none⟩), .pointer (some ⟨bt, 0, none⟩), .pointer (some ⟨b6, 0, none⟩), .agg (tr ⟨s⟩), u, vb, .func (.func 203) #[] #[.pointer (some ⟨b, 0, none⟩)], vj, .slice pv js.length cv, vj, .map (some bm), .func (.func 203) #[] #[.pointer (some ⟨b, 0, none⟩)], .agg (lk x), undef, undef, undef, undef, undef, undef, undef, undef, undef, undef, undef, undef, undef, undef, undef, undef, undef, undef, undef, undef, undef], defers := [] } ∧ W.heap[b6]? = some (.cells (lk x) 118 (0, 0)))
   (fun x a' s X Y row ⟨b6, e, h⟩ hg hr => ⟨b6, e, (hg.block b6 (Array.getElem?_eq_some_iff.1 h).1 (fun e => by obtain ⟨_, o, ho, hc⟩ := hr b6 e.symm; rw [h] at ho; cases ho; cases hc)).trans h⟩) ?assign ?body ?done ?stop
  case ownx =>
   refine z1u fun pre W W' bs ⟨⟨h1, ys, x, h2, h3, h4, v', h5⟩, h6, h7⟩ t hbs => ?_
   refine ⟨⟨h1, ys, x, h2, h3, h4, v', ygd (B := wr.heap.size) (by have := HSZ.out; have := HSW.out; omega) (by have := HSZ.out; have := HSW.out; omega) (by have := HSZ.out; have := HSW.out; omega) (by have := HSZ.out; have := HSW.out; omega) h5 (by have := HSZ.out; have := HSW.out; omega) t hbs⟩, Nat.le_trans h6 t.size, fun D hD => t.heap (h7 D hD) fun e => ?_⟩
   have := (hbs D e).1
   have := (Array.getElem?_eq_some_iff.1 (HDS.out D hD).1).1
   omega
  case assign =>
   intro lo pre x W K hI hK
   gi_wp2
   refine hK _ _ ((KeepsOthers.alloc _ _).from _) (But.of_below (below1.mono (by have := hI.2.size; have := HSZ.out; have := HSW.out; omega)) (Nat.le_refl _)) ⟨hI.1, zab hI.2 below1⟩ ⟨W.heap.size, rfl, heap_alloc_last W _⟩
  case body =>
   rintro lo pre x a' W hlo ⟨rr, hr⟩ ⟨hp, hB⟩ ⟨b6, rfl, h6⟩ hlen
   have M0 : Hid (Mow s1 bo bt bm k.length w1 v k k W) := M.out.keep hB (by have := HSZ.out; have := HSW.out; omega)
   have HP := Lib.hid hp
   have HBW := Lib.hid hB
   have H6 := Lib.hid h6
   have HFs := Lib.hid (zlr bm k.length k x.s W M0.out.set)
   have HFt := Lib.hid (fun V (g : Below W.heap.size W V) => zlr bm k.length k x.t V (M0.out.set.keep g))
   have c1 := (zam M0.out.mbx).1
   have c2 := (lk_v h6).s
   have HFk : Hid (zfb k x = (decide (x.s ∈ k) && !decide (x.t ∈ k))) := rfl
   obtain ⟨p1, hp1⟩ : ∃ p1, p1 = decide (x.s ∈ k) := ⟨_, rfl⟩
   obtain ⟨p2, hp2⟩ : ∃ p2, p2 = decide (x.t ∈ k) := ⟨_, rfl⟩
   rw [← hp1] at HFs HFk
   rw [← hp2] at HFt HFk
   have HPn : Hid (zfb k x = false → ∀ y ∈ pre ++ [x], zfb k y = false) := fun e y hy => by
    rcases List.mem_append.1 hy with h | h
    ·
     exact HP.out y h
    ·
     rw [List.mem_singleton] at h; subst h; exact e
   have HS5 : Hid (s1 ≤ W.heap.size ∧ wr.heap.size ≤ W.heap.size) := ⟨by have := HSZ.out; have := HSW.out; have := HBW.out.size; omega, HBW.out.size⟩
   clear hlen h6 hr hp hB hp1 hp2
   gi_wp2
   refine ⟨trivial, (callsIn_wide.2 HFs.out).mono ?_⟩
   rintro e W1 ⟨rfl, g1⟩
   have HG1 := Lib.hid g1
   replace M0 := Lib.hid (M0.out.keep g1 HS5.out.1)
   replace H6 := Lib.hid (zac g1 H6.out)
   clear g1 c1 c2 HFs
   cases p1
   ·
    gi_wp2
    refine ⟨trivial, ?_⟩
    gi_wp2
    exact ⟨KeepsFrom.of_grownBy (zbd HG1.out) (fun j e => by cases e), But.of_below (HG1.out.mono HS5.out.1) (Nat.le_refl _), HPn.out (by rw [HFk.out]; rfl), zab HBW.out HG1.out⟩
   ·
    have c1 := (zam M0.out.mbx).1
    have c2 := (lk_v H6.out).t
    gi_wp2
    refine ⟨trivial, (callsIn_wide.2 (HFt.out W1 HG1.out)).mono ?_⟩
    rintro e W2 ⟨rfl, g2⟩
    have HG2 : Hid (Below W.heap.size W W2) := zab HG1.out g2
    replace M0 := Lib.hid (M0.out.keep g2 (Nat.le_trans HS5.out.1 HG1.out.size))
    replace H6 := Lib.hid (zac g2 H6.out)
    clear g2 c1 c2 HG1 HFt
    cases p2
    ·
     obtain ⟨m, hm⟩ : ∃ m, m = k.length := ⟨_, rfl⟩
     obtain ⟨vp, vc, rfl⟩ := zdh M0.out.own hm.symm
     have HMk := Lib.hid hm
     have HS2 : Hid (s1 ≤ W2.heap.size) := Nat.le_trans HS5.out.1 HG2.out.size
     obtain ⟨y1, y2⟩ := zam M0.out.box
     have y3 := (lk_v H6.out).t
     have HFr : Hid (zfb k x = true) := by show _ = true; rw [HFk.out]; rfl
     have HBo : Hid (b6 ≠ bo) := by
      rintro rfl
      have h1 := H6.out
      rw [M0.out.box] at h1
      injection h1 with h1
      injection h1 with h1
      have := congrArg Array.size h1
      rw [zni] at this
      cases this
     have HBv : Hid (∀ v, OwnE Ecc W2 s1 v k → v.ownBlock ≠ some b6) := fun v h e => zwx h H6.out (by decide) e
     have HDm : Hid (∀ E ∈ ds, W2.heap[E]? = some (.deferred (some []))) := fun E hE => zac HG2.out (zac HBW.out (HDS.out E hE).1)
     clear hm
     gi_wp2_with (gi_at_builtin; refine zkr Kcc _ rfl (.tmp 34) (.tmp 37) rfl s1 _ k rfl (zaw M0.out.own _) _ [x.t] rfl (zfx _ x.t _ rfl) (by have := HKl.out; simp; omega) (by have := HS2.out; simp; omega) ?_; intro v' w' ho' hgr'; obtain ⟨np, nc, hv⟩ := zdh ho' (n := m + 1) (by rw [List.length_append, HMk.out]; rfl); rw [hv] at ho' hgr' ⊢; clear hv; have HGR := Lib.hid hgr'; have M1 : Hid (Mow s1 bo bt bm k.length w1 (.slice np (m + 1) nc) (k ++ [x.t]) k (w'.setCell ⟨bo, 0, none⟩ (.slice np (m + 1) nc))) := (M0.out.keep below1 HS2.out).app HSZ.out.2.1 HSZ.out.2.2.1 HSZ.out.2.2.2.1 ho' hgr'; have H7 : Hid ((w'.setCell ⟨bo, 0, none⟩ (.slice np (m + 1) nc)).heap[b6]? = some (.cells (lk x) 118 (0, 0))) := ((Below.heap_setCell _ _ _ _ HBo.out).trans (hgr'.heap (zac below1 H6.out) (HBv.out _ M0.out.own))); have HDw : Hid (∀ E ∈ ds, (w'.setCell ⟨bo, 0, none⟩ (.slice np (m + 1) nc)).heap[E]? = some (.deferred (some []))) := (fun E hE => (Below.heap_setCell _ _ _ _ (show E ≠ bo by have := (HDS.out E hE).2; have := HSZ.out; omega)).trans (hgr'.heap (zac below1 (HDm.out E hE)) (fun e => by have := zjh M0.out.own e (HDm.out E hE); cases this))); have z1 := (zam (hgr'.heap (M0.out.keep (below1 (o := .cells (cc x.t) 36)) HS2.out).box (fun e => (M0.out.off _ e).1 rfl))).1; have z2 := (zam (hgr'.heap (M0.out.keep (below1 (o := .cells (cc x.t) 36)) HS2.out).box (fun e => (M0.out.off _ e).1 rfl))).2; have z3 := (zam M1.out.mbx).1; have z4 := (lk_v H7.out).t; clear ho' hgr' y1 y2 y3)
     refine ⟨trivial, (callsIn_wide.2 (zq6 bm k.length k x.t _ M1.out.set (by have := HKl.out; omega))).mono ?_⟩
     rintro e V3 ⟨⟨vv, rfl⟩, hown, hgr⟩
     have M2 : Hid (Mow s1 bo bt bm (k.length + 1) w1 (.slice np (m + 1) nc) (k ++ [x.t]) (k ++ [x.t]) V3) := M1.out.put HSZ.out.2.1 HSZ.out.2.2.1 HSZ.out.2.2.2.1 hown hgr
     have HDv : Hid (∀ E ∈ ds, V3.heap[E]? = some (.deferred (some []))) := fun E hE => (hgr.block E (Array.getElem?_eq_some_iff.1 (HDw.out E hE)).1 (fun e => by cases e; have := (HDS.out _ hE).2; have := HSZ.out; omega)).trans (HDw.out E hE)
     have HGr := Lib.hid hgr
     clear hown hgr z1 z2 z3 z4
     gi_wp2
     have k1 : KeepsFrom wr.heap.size W W2 := KeepsFrom.of_grownBy (zbd HG2.out) (fun j e => by cases e)
     have k2 : KeepsFrom wr.heap.size W2 (w'.setCell ⟨bo, 0, none⟩ (.slice np (m + 1) nc)) := (((KeepsOthers.alloc _ _).trans (KeepsOthers.of_grownBy HGR.out.1 (fun j o e hj => zqc (zaw M0.out.own _) e hj))).trans (KeepsOthers.setCell _ _ _)).from _
     have k3 : KeepsFrom wr.heap.size (w'.setCell ⟨bo, 0, none⟩ (.slice np (m + 1) nc)) V3 := KeepsFrom.of_grownBy HGr.out (fun j e => by cases e; have := HSZ.out; have := HSW.out; omega)
     exact ⟨(k1.trans k2).trans k3, ⟨rfl, pre, x, rfl, HP.out, HFr.out, _, M2.out⟩, Nat.le_trans HS5.out.2 ((k1.trans k2).trans k3).size, HDv.out⟩
    ·
     gi_wp2
     exact ⟨KeepsFrom.of_grownBy (zbd HG2.out) (fun j e => by cases e), But.of_below (HG2.out.mono HS5.out.1) (Nat.le_refl _), HPn.out (by rw [HFk.out]; rfl), zab HBW.out HG2.out⟩
  case done =>
   rintro D ys W hD rfl ⟨hp, hB⟩ hK
   have HX : Hid (k = r) := by show k = r; rw [← HE.out]; exact (HOld.out k hp).symm
   have M1 : Hid (Mow s1 bo bt bm k.length w1 v k k W) := M.out.keep hB (by have := HSZ.out; have := HSW.out; omega)
   obtain ⟨vp, vc, rfl⟩ := zb4 M1.out.own
   have HKD := Lib.hid hK
   have HDD := Lib.hid hD
   have HBf : Hid (Below w.heap.size w W) := by
    have h1 : Below s1 w1 W := M1.out.old
    exact G1.out.trans (h1.mono HSZ.out.1)
   have HSw : Hid (wr.heap.size ≤ W.heap.size) := hB.size
   have HDs : Hid (∀ E ∈ ds, W.heap[E]? = some (.deferred (some []))) := fun E hE => zac hB (HDS.out E hE).1
   obtain ⟨m, hm⟩ : ∃ m, m = k.length := ⟨_, rfl⟩
   have c1 := (zam M1.out.box).1
   rw [← hm] at c1
   have HMm := Lib.hid hm
   clear hp hB hK hD hm
   go_wp2_with fail
   (try rw [Exit.noGoto_ret])
   refine zyz (D :: ds) _ ?nd ?dd fun W' hT => ?fin
   case nd =>
    refine List.nodup_cons.2 ⟨fun hE => ?_, HND.out⟩
    have := (Array.getElem?_eq_some_iff.1 (HDS.out D hE).1).1
    have := HDD.out
    omega
   case dd =>
    intro E hE
    rcases List.mem_cons.1 hE with rfl | hE
    ·
     exact HKD.out
    ·
     exact HDs.out E hE
   case fin =>
    refine ⟨.slice vp m vc, by simp [results, Tryz.results128, go_sem], HRr.out _ _ ?_ ?_⟩
    ·
     have e := M1.out.own
     rw [← HMm.out, HX.out] at e
     refine zbi (hT.own e fun q hq hE => ?_) HSZ.out.1
     have hdef : W.heap[q]? = some (.deferred (some [])) := by
      rcases List.mem_cons.1 hE with rfl | hE
      ·
       exact HKD.out
      ·
       exact HDs.out q hE
     have := zjh e hq hdef
     cases this
    ·
     refine hT.below HBf.out (fun q hE => ?_) HBf.out.size
     rcases List.mem_cons.1 hE with rfl | hE
     ·
      have := HDD.out; have := HSZ.out; have := HSW.out; omega
     ·
      have := (HDS.out q hE).2; have := HSZ.out; omega
  case stop =>
   rintro D c pre W hD hpre ⟨⟨rfl, ys, x, hys, hf1, hf2, v', hmo⟩, hsw, hdd⟩ hK
   obtain ⟨hn1, hn2⟩ := HNew.out k ys x (by rw [← hys]; exact hpre) hf1 hf2
   have HKD := Lib.hid hK
   have HDD := Lib.hid hD
   have M1 : Hid (Mow s1 bo bt bm (k ++ [x.t]).length w1 v' (k ++ [x.t]) (k ++ [x.t]) W) := by
    show Mow _ _ _ _ _ _ _ _ _ _
    rw [List.length_append]
    exact hmo
   have HN1 : Hid (zc3 l ls bal (k ++ [x.t]) = r) := hn1.trans HE.out
   have HN2 := Lib.hid hn2
   have HSw := Lib.hid hsw
   have HDd := Lib.hid hdd
   clear hK hD hmo hn1 hn2 hsw hdd hf1 hf2 hys hpre
   gi_wp2
   go_wp2_with fail
   refine ⟨⟨v', k ++ [x.t], _, D :: ds, M1.out, ?s1, HN1.out, Nat.le_trans HSW.out HSw.out, ?s4, ?s5, rfl⟩, ?s7⟩
   case s1 => rw [List.length_append]; have := HN2.out; have := HLn.out; simp; omega
   case s4 =>
    intro E hE
    rcases List.mem_cons.1 hE with rfl | hE
    ·
     exact ⟨HKD.out, Nat.le_trans HSW.out HDD.out⟩
    ·
     exact ⟨HDd.out E hE, (HDS.out E hE).2⟩
   case s5 =>
    refine List.nodup_cons.2 ⟨fun hE => ?_, HND.out⟩
    have := (Array.getElem?_eq_some_iff.1 (HDS.out D hE).1).1
    have := HDD.out
    omega
   case s7 =>
    show _ - z1e W bo < _ - z1e wr bo
    rw [HMu.out, zts M1.out, List.length_append]
    have := HN2.out; have := HLn.out; simp; omega
theorem yb1 (s : SlV) (u vb vj : Value) (l : List Nd) (ls : List Lk) (bal : List UInt64) (js : List Ck) (w : World) (h : SlE Ene w (sv s) l) (h1 : SlE Elk w u ls) (h2 : SlE Enum w vb bal) (h3 : SlE Ecc w vj js) (hn : js.length ≤ 2000) (hm : ls.length ≤ 1000) :
  Calls Tryz.prog 128 #[.agg (tr ⟨s⟩), u, vb, vj] w (MorR l ls bal js w) := z16 s u vb vj l ls bal js w h h1 h2 h3 hn hm
end
theorem z06 (b a : Ck) (w : World) :
  Calls Tryz.prog 60 #[.agg (cc b), .agg (cc a)] w fun e w' => e = .returned (.bool (betC zbh a b)) ∧ Below w.heap.size w w' := by
 have HA := Lib.hid (fun W => zzn a.root b.root W)
 obtain ⟨A, hA⟩ : ∃ A, A = a.epoch.toNat := ⟨_, rfl⟩
 obtain ⟨B, hB'⟩ : ∃ B, B = b.epoch.toNat := ⟨_, rfl⟩
 have HT : Hid (betC zbh a b = (decide (A < B) || (decide (B = A) && zbh a.root b.root))) := by
  show _ = _
  unfold betC
  rw [hA, hB', show decide (b.epoch = a.epoch) = decide (b.epoch.toNat = a.epoch.toNat) by rw [Bool.eq_iff_iff, decide_eq_true_iff, decide_eq_true_iff]; exact UInt64.toNat_inj.symm]
 rw [HT.out]
 obtain ⟨W0, hW0⟩ : ∃ W0, W0 = (w.alloc (.cells (cc b) 36)).alloc (.cells (cc a) 36) := ⟨_, rfl⟩
 obtain ⟨hB, k0, k1, hz0⟩ := zc2 w _ _ _ _ W0 hW0
 have HB := Lib.hid hB
 have HW := Lib.hid hW0
 have y0 := (ck_v k0).e
 have y1 := (ck_v k1).e
 have z0 := zb0 k0
 have z1 := zb0 k1
 rw [← hB'] at y0
 rw [← hA] at y1
 generalize zbh a.root b.root = r at *
 clear hW0 hB k0 k1 hz0 HT hA hB'
 by_cases e : B = A
 ·
  have t1 : ((B : Int) != (A : Int)) = false := by rw [e]; exact bne_self_eq_false _
  have t1' : (B != A) = false := by rw [e]; exact bne_self_eq_false _
  have t2 : decide (A < B) = false := decide_eq_false (by omega)
  have t3 : decide (B = A) = true := decide_eq_true e
  rw [t2, t3, Bool.false_or, Bool.true_and]
  clear e t2 t3
  go_enter Tryz.func60, Tryz.ntmps60
  go_upto_region 1 with fail
  rw [← HW.out]
  go_wp2_with fail
  refine (HA.out W0).mono ?_
  rintro e w1 ⟨rfl, g⟩
  have G1 := Lib.hid (zab HB.out g)
  clear g
  go_wp2_with fail
  go_ret
  exact ⟨rfl, G1.out⟩
 ·
  have t1 : ((B : Int) != (A : Int)) = true := by rw [bne_iff_ne]; omega
  have t1' : (B != A) = true := by rw [bne_iff_ne]; omega
  have t3 : decide (B = A) = false := decide_eq_false e
  rw [t3, Bool.false_and, Bool.or_false]
  have t4 : decide ((A : Int) < (B : Int)) = decide (A < B) := decide_eq_decide.2 (by omega)
  obtain ⟨E, hE⟩ : ∃ E, E = decide (A < B) := ⟨_, rfl⟩
  rw [← hE] at t4 ⊢
  have t4' : decide (A < B) = E := hE.symm
  clear e t3 hE
  go_enter Tryz.func60, Tryz.ntmps60
  go_upto_region 1 with fail
  rw [← HW.out]
  go_wp2_with fail
  go_ret
  exact ⟨rfl, HB.out⟩
theorem z10 (s : SlV) (p : Option Addr) (n cp : Nat) (l : List Nd) (js : List Ck) (fin : Ck) (w : World) (h : SlE Ene w (sv s) l) (h3 : SlE Ecc w (.slice p n cp) js) (hl : js.length = n) (hj : n ≤ 2000) :
  Calls Tryz.prog 29 #[.agg (tr ⟨s⟩), .slice p n cp, .agg (cc fin)] w fun e w' => e = .returned (.agg (cc (zh5 l js fin))) ∧ Below w.heap.size w w' := by
 have HBh := Lib.hid (fun c W (g : Below w.heap.size w W) => zpw s l c fin W (zad g h))
 have HBt := Lib.hid (fun b a W => z06 b a W)
 obtain ⟨r, hr⟩ : ∃ r, r = zh5 l js fin := ⟨_, rfl⟩
 rw [← hr]
 have HR := Lib.hid hr
 have HL := Lib.hid hl
 have HN := Lib.hid hj
 obtain ⟨W3, hW3⟩ : ∃ W3, W3 = ((w.alloc (.cells (tr ⟨s⟩) 24)).alloc (.cells (cc fin) 36)).alloc (.cells (cc zcc) 36) := ⟨_, rfl⟩
 obtain ⟨hB, k0, k1, k2, hz0⟩ := zf2 w _ _ _ _ _ _ W3 hW3
 have HW := Lib.hid hW3
 have y0 := (ck_v k1).a
 have D := Lib.hid (z34 (s := s) (fin := fin) hB k0 k1 k2)
 clear hW3 hB k0 k1 k2 hz0 hr hl hj
 go_enter Tryz.func29, Tryz.ntmps29
 go_upto_region 1 with fail
 rw [← HW.out]
 go_upto_region 2 with fail
 obtain ⟨W0, hW0⟩ : ∃ W0, W0 = W3.alloc (.cells (cc fin) 36) := ⟨_, rfl⟩
 rw [← hW0]
 rw [← hW0] at D
 generalize W3.heap.size = R at *
 clear hW0 y0 HW
 go_wp2_with fail
 go_loopw [13] (fun i wr => ∃ (j : Nat) (o : Ck), j ≤ n ∧ i = .int .i64 (j : Int) ∧ zfh zbh (fun c => zbz l c fin) (js.drop j) o = r ∧ Bv w wr s fin R o) (fun i _ => n - (intOf i).toNat)
 case atStart => exact ⟨0, fin, Nat.zero_le _, rfl, HR.out.symm, D.out⟩
 case round =>
  obtain ⟨j, o, hj, rfl, hb, hD⟩ := hrel
  have HBe := Lib.hid hb
  replace D := Lib.hid hD
  clear hb hD
  by_cases hlt : j < n
  ·
   have i0 : (0 : Int) ≤ (j : Int) := by omega
   have i1 : (j : Int) < (n : Int) := by omega
   have u1 : (j : Int) + 1 < 10000 := by have := HN.out; omega
   have d0 : decide ((j : Int) < (n : Int)) = true := decide_eq_true i1
   have d0' : decide (j < n) = true := decide_eq_true hlt
   have HLT := Lib.hid hlt
   obtain ⟨b1, o1, rfl, _, x1⟩ := zdq (zad D.out.g h3) (by have := HL.out; omega)
   have y1 := zgi x1 (i := j) (by have := HL.out; omega)
   have HSt := Lib.hid (zmg (ok := (fun c => zbz l c fin)) (js := js) (j := j) (by rw [HL.out]; exact hlt) o)
   generalize ckAt js j = C at *
   have HBh' := Lib.hid (HBh.out C)
   have HBt' := Lib.hid (HBt.out C o)
   generalize zbz l C fin = a at *
   generalize betC zbh o C = b at *
   clear x1 hlt
   go_upto_region 5 with fail
   obtain ⟨W5, hW5⟩ : ∃ W5, W5 = wr.alloc (.cells (cc C) 36) := ⟨_, rfl⟩
   rw [← hW5]
   have hz5 : W5.heap[wr.heap.size]? = some (.cells (cc C) 36 (0, 0)) := by rw [hW5]; exact heap_alloc_last wr _
   replace D := Lib.hid (D.out.keep (W' := W5) (by rw [hW5]; exact below1))
   have C5 := Lib.hid hz5
   obtain ⟨Q, hQ⟩ : ∃ Q, Q = wr.heap.size := ⟨_, rfl⟩
   rw [← hQ] at C5 hz5 ⊢
   clear hW5 y1 hQ
   have z1 := (ck_v D.out.o).a
   have z2 := (ck_v hz5).a
   clear hz5
   go_wp2_with fail
   refine (HBt'.out _).mono ?_
   rintro e u ⟨rfl, g⟩
   replace D := Lib.hid (D.out.keep g)
   replace C5 := Lib.hid (zac g C5.out)
   clear g z1 z2
   have z0 := (zai D.out.t).2.1
   have z1 := (ck_v D.out.f).a
   have z2 := (ck_v C5.out).a
   cases b
   ·
    go_wp2_with fail
    go_roundw
    case rel => exact ⟨j + 1, o, HLT.out, by go_num, by rw [← HBe.out, HSt.out, Bool.and_false]; rfl, D.out⟩
    case measure => simp [intOf]; have := HLT.out; omega
   ·
    go_wp2_with fail
    refine (HBh'.out _ D.out.g).mono ?_
    rintro e u2 ⟨rfl, g⟩
    replace D := Lib.hid (D.out.keep g)
    replace C5 := Lib.hid (zac g C5.out)
    clear g z0 z1 z2
    have z2 := (ck_v C5.out).a
    have z3 := zau D.out.o (zax _)
    cases a
    ·
     go_wp2_with fail
     go_roundw
     case rel => exact ⟨j + 1, o, HLT.out, by go_num, by rw [← HBe.out, HSt.out]; rfl, D.out⟩
     case measure => simp [intOf]; have := HLT.out; omega
    ·
     go_wp2_with fail
     go_roundw
     case rel => exact ⟨j + 1, C, HLT.out, by go_num, by rw [← HBe.out, HSt.out]; rfl, D.out.put C⟩
     case measure => simp [intOf]; have := HLT.out; omega
  ·
   obtain rfl : j = n := by omega
   have d0 : decide ((j : Int) < (j : Int)) = false := decide_eq_false (Int.lt_irrefl _)
   have d0' : decide (j < j) = false := decide_eq_false (Nat.lt_irrefl _)
   have hF : Hid (o = r) := by
    show o = r
    rw [← HBe.out, List.drop_eq_nil_of_le (by rw [HL.out]; exact Nat.le_refl _)]; rfl
   have y1 := (ck_v D.out.o).a
   have z1 := zau D.out.r (zax _)
   clear hlt
   go_wp2_with fail
   exact bodyPost_ret (zao Tryz.isAgg36 Tryz.sizeOf36 _ 6 rfl _ _ _ _ rfl (zar (zgz D.out.r) (zax _))) rfl ⟨by rw [hF.out], zas D.out.g (by omega)⟩
theorem zzi (s : SlV) (v : Value) (l : List Nd) (js : List Ck) (fin : Ck) (w : World) (h : SlE Ene w (sv s) l) (h3 : SlE Ecc w v js) (hj : js.length ≤ 2000) :
  Calls Tryz.prog 29 #[.agg (tr ⟨s⟩), v, .agg (cc fin)] w fun e w' => e = .returned (.agg (cc (zh5 l js fin))) ∧ Below w.heap.size w w' := by
 have k := h3
 obtain ⟨p, cp, rfl, _⟩ := zal h3
 exact z10 s p _ cp l js fin w h k rfl hj
theorem zmp : ∀ args w, (callFunc 29 args).run Tryz.prog w = .ok (.enter 29 args) w := za7 Tryz.func29 (by kernel_rfl) (by kernel_rfl)
open Go.RowKit
section
variable {α : Type} {E : Lie α}
theorem ybq {w : World} {base g n cap : Nat} {l : List α} (h : OwnE E w base (.slice (some ⟨g, 0, none⟩) n cap) l) (hn : l.length = n) {i : Nat} (hi : i < n) (y : α) {r : Array Value} (hr : r.toList = E.enc y) : OwnE E (stA w (.pointer (some ⟨g, i * E.n, none⟩)) (.agg r)) base (.slice (some ⟨g, 0, none⟩) n cap) (l.set i y) := by
 subst hn
 unfold OwnE at h ⊢
 obtain ⟨_, h2⟩ := h
 rcases h2 with ⟨e, _⟩ | ⟨g', cap', cur, e, hb, hg, hc, hm, hs, ht⟩
 ·
  cases e
 ·
  injection e with e1 _ e3
  injection e1 with e1
  injection e1 with e1
  subst e1 e3
  have hsz : r.size = E.n := by rw [← Array.length_toList, hr, E.len]
  have hmul : (i + 1) * E.n ≤ l.length * E.n := Nat.mul_le_mul hi (Nat.le_refl _)
  have hcap : l.length * E.n ≤ cap * E.n := Nat.mul_le_mul hc (Nat.le_refl _)
  have hsucc : (i + 1) * E.n = i * E.n + E.n := Nat.succ_mul _ _
  have hfit : i * E.n + r.size ≤ cur.size := by omega
  refine ⟨by rw [zbl], .inr ⟨g, cap, zba cur (i * E.n) r, by rw [List.length_set], hb, zb6 hg hfit, by rw [List.length_set]; exact hc, hm, by rw [zw7 hfit, hs], ?_⟩⟩
  have h1 : (zaq E (l.take i)).length = i * E.n := by rw [zbl, List.length_take, Nat.min_eq_left (by omega)]
  have h3 : (E.enc l[i]).length = E.n := E.len _
  have ht' := ht
  rw [zpb l hi] at ht'
  have t1 : cur.toList.take (i * E.n) = zaq E (l.take i) := by
   have := congrArg (List.take (i * E.n)) ht'
   rw [List.take_take, Nat.min_eq_left (by omega), List.take_left' h1] at this
   exact this
  have t2 : (cur.toList.drop (i * E.n + E.n)).take (l.length * E.n - (i * E.n + E.n)) = zaq E (l.drop (i + 1)) := by
   have := congrArg (List.drop (i * E.n + E.n)) ht'
   rw [List.drop_take, ← List.append_assoc, List.drop_left' (by rw [List.length_append, h1, h3])] at this
   exact this
  rw [List.length_set, z0c l hi]
  unfold zba
  rw [hsz, hr, t1]
  have e4 : (zaq E (l.take i) ++ E.enc y).length = i * E.n + E.n := by rw [List.length_append, h1, E.len]
  rw [← List.append_assoc, List.toList_toArray, List.take_append, e4, List.take_of_length_le (by rw [e4]; omega), t2, List.append_assoc]
end
end Go.Proofs.YtkalofboioffiaaGreat
