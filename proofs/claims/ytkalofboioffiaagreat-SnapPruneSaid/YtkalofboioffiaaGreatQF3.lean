import Derived.Test.YtkalofboioffiaaGreatQF2
import Derived.Laws.BytesArg
import Derived.Lib.EndianBits
namespace Go.Proofs.YtkalofboioffiaaGreat
open Go.RowKit
set_option maxRecDepth 200000
set_option maxHeartbeats 64000000
theorem ycn {g : Eg} {b : Bk} (m : MayS' g) (h0 : insE g.t b.root b.parent b.slot = 0) :
  zal (insL g.t b.root b.parent b.slot b.just) g.fin.root = zal g.t g.fin.root ∧ zal (insL g.t b.root b.parent b.slot b.just) b.root = g.t.length := by
 have hL : insL g.t b.root b.parent b.slot b.just = g.t ++ [insN g.t b.root b.parent b.slot b.just] := by unfold insL; rw [if_pos h0]
 have h' := zu2 b.just h0
 rw [hL]
 exact ⟨zig m.t h' (m.inJ _ m.fin), (yax b.just h0).2⟩
structure PutW (w W : World) (B T R : Nat) (x : En) (g : Eg) (s7 : SlV) (l7 : List UInt64) : Prop where
 box : W.heap[T]? = some (.cells (en x) 38 (0, 0))
 r : EnAt W R
 l : LaidG W { x with w := s7 } { g with w := l7 }
 f : FarG T { x with w := s7 } { g with w := l7 }
 fr : FarG R { x with w := s7 } { g with w := l7 }
 ff : ∀ U, EnAt w U → FarG U { x with w := s7 } { g with w := l7 } ∧ W.heap[U]? = w.heap[U]?
 bw : Below B w W
 lo : B ≤ T
 lr : B ≤ R
 lw : w.heap.size ≤ T
 lv : w.heap.size ≤ R
theorem ynj {w W w7 : World} {B T R : Nat} {x0 x : En} {g0 g : Eg} {s7 : SlV} {l7 : List UInt64} {o : Obj} (hO : OwnG w B x0 g0) (hB : B ≤ w.heap.size) (A : Gp w x0 g0 R W T x g)
  (hx : x.bal = x0.bal ∧ x.v.l = x0.v.l ∧ x.late = x0.late ∧ x.k = x0.k ∧ x.j = x0.j) (hn : ∀ b, (sv x.t.n).ownBlock = some b → w.heap.size ≤ b)
  (ho : OwnE Enum w7 B (sv s7) l7) (hg : Gr (W.alloc o) (sv x0.w) w7 (sv s7)) : PutW w w7 B T R x g s7 l7 := by
 have hlt : ∀ b, (sv x0.w).ownBlock = some b → b < w.heap.size := fun b hb => (zbi hO.w hb).2
 have hsz : W.heap.size ≤ w7.heap.size := Nat.le_trans (by simp) hg.1.size
 have hk : ∀ k, k < W.heap.size → (sv x0.w).ownBlock ≠ some k → w7.heap[k]? = W.heap[k]? := fun k h1 h2 => by
  rw [hg.1.block k (by simp; omega) (fun e => h2 e.symm)]
  exact (below1 (w := W) (o := o)).block k h1
 have hT : w7.heap[T]? = some (.cells (en x) 38 (0, 0)) := (hk T A.lT (fun e => by have := hlt T e; have := A.s.lo; omega)).trans A.s.box
 have hR : EnAt w7 R := by
  obtain ⟨z, hz⟩ := A.r
  exact ⟨z, (hk R A.lR (fun e => by have := hlt R e; have := A.lr; omega)).trans hz⟩
 have keep : ∀ {α : Type} {E : Lie α} {s : SlV} {l : List α}, SlE E W (sv s) l → (∀ b, (sv s).ownBlock = some b → (sv x0.w).ownBlock ≠ some b) → SlE E w7 (sv s) l := fun h1 h2 => zd6 h1 hsz fun b hb e => hk b hb (h2 b e)
 obtain ⟨h1, h2, h3, h4, h5⟩ := hx
 have fw : ∀ U, EnAt w7 U → FarE U s7 l7 := fun U hU => zip ho zrh.2.1 hU
 refine ⟨hT, hR, ⟨keep A.s.l.t fun b hb e => by have := hn b hb; have := hlt b e; omega, keep A.s.l.bal fun b hb e => hO.sep b e (by rw [← h1]; exact hb), keep A.s.l.v fun b hb e => zgy hO.w hO.v yiq.2.1 b e (by rw [← h2]; exact hb), zat ho,
  keep A.s.l.late fun b hb e => zgy hO.w hO.late yiq.2.2.1 b e (by rw [← h3]; exact hb), keep A.s.l.k fun b hb e => zgy hO.w hO.k yiq.2.2.2.1 b e (by rw [← h4]; exact hb), keep A.s.l.j fun b hb e => zgy hO.w hO.j yiq.2.2.2.2 b e (by rw [← h5]; exact hb), A.s.l.out, A.s.l.fin, A.s.l.now⟩,
  A.s.f.setW (fw T ⟨x, hT⟩), A.fr.setW (fw R hR), fun U hU => ?_, ?_, Nat.le_trans hB A.s.lo, Nat.le_trans hB A.lr, A.s.lo, A.lr⟩
 ·
  have hq : w7.heap[U]? = w.heap[U]? := by
   refine (hk U (Nat.lt_of_lt_of_le hU.lt A.s.bw.size) fun e => ?_).trans (A.s.bw.block U hU.lt)
   obtain ⟨z, hz⟩ := hU
   obtain ⟨c, hc⟩ := zjd hO.w e
   rw [hz] at hc
   injection hc with hc
   injection hc with _ hc
   exact zrh.2.1 hc.symm
  refine ⟨(A.ff U hU (hO.far hU)).setW (fw U ?_), hq⟩
  obtain ⟨z, hz⟩ := hU
  exact ⟨z, hq.trans hz⟩
 ·
  have b1 : Below B w (W.alloc o) := (A.s.bw.mono hB).trans (below1.mono (Nat.le_trans hB A.s.bw.size))
  exact b1.grown hg.1 (Nat.le_trans (Nat.le_trans hB A.s.bw.size) (by simp)) fun b hb => (zbi hO.w hb).1
theorem PutW.ret {w W : World} {B T R : Nat} {x : En} {g : Eg} {s7 : SlV} {l7 : List UInt64} (h : PutW w W B T R x g s7 l7) (n : Nat) :
  EgErB { g with w := l7 } n B w (.returned (.tuple #[.agg (en { x with w := s7 }), .int .i64 (n : Int)])) (stA (W.setCell ⟨T, 4, none⟩ (sv s7)) (.pointer (some ⟨R, 0, none⟩)) (.agg (en { x with w := s7 }))) :=
 ⟨_, rfl, (h.l.put h.f (zcm _ _) (zcb _ _)).put h.fr (zfd _ _) (zcq _ _), zap (h.bw.setCell (p := ⟨T, 4, none⟩) h.lo _) h.lr, fun U hU => ⟨(h.ff U hU).1, (zcq _ _ U (fun e => by have := hU.lt; have := h.lv; omega)).trans ((zcb _ _ U (fun e => by have := hU.lt; have := h.lw; omega)).trans (h.ff U hU).2)⟩⟩
theorem PutW.bx {w W : World} {B T R : Nat} {x : En} {g : Eg} {s7 : SlV} {l7 : List UInt64} (h : PutW w W B T R x g s7 l7) : ldA (W.setCell ⟨T, 4, none⟩ (sv s7)) (.pointer (some ⟨T, 0, none⟩)) 42 = some (en { x with w := s7 }) :=
 zag (by rw [za4 h.box 4 (sv s7), zun]) (zbc _)
theorem PutW.er {w W : World} {B T R : Nat} {x : En} {g : Eg} {s7 : SlV} {l7 : List UInt64} (h : PutW w W B T R x g s7 l7) (hn : R ≠ T) : EnAt (W.setCell ⟨T, 4, none⟩ (sv s7)) R := zv4 _ _ hn h.r
theorem zk4 : ∀ args w, (callFunc 21 args).run Tryz.prog w = .ok (.enter 21 args) w := zbe Tryz.func21 (by kernel_rfl) (by kernel_rfl)
theorem zru : ∀ args w, (callFunc 23 args).run Tryz.prog w = .ok (.enter 23 args) w := zbe Tryz.func23 (by kernel_rfl) (by kernel_rfl)
theorem z68 (x : En) (g : Eg) (b : Bk) (B : Nat) (w : World) (h : OwnG w B x g) (hBw : B ≤ w.heap.size) (m : MayS' g) (sg : zcv g) :
  Calls Tryz.prog 55 #[.agg (en x), .agg (bk b)] w (EgErB (blkG g b) (ze9 g b) B w) := by
 obtain ⟨W0, hW0⟩ : ∃ W0, W0 = ((w.alloc (.cells (en x) 38)).alloc (.cells (bk b) 71)).alloc (.cells (en zen) 38) := ⟨_, rfl⟩
 obtain ⟨hB, q0, q1, q2, _⟩ := zft w _ _ _ _ _ _ W0 hW0
 have A : Hid (Gp w x g (w.heap.size + 2) W0 w.heap.size x g) := zlc h.laid hB q0 ⟨_, q2⟩ (Nat.le_refl _) (by omega) (by omega)
 have M := Lib.hid q1
 have HW := Lib.hid hW0
 have HOw := Lib.hid h
 have HBw := Lib.hid hBw
 have HSg := Lib.hid sg
 have hm := zhx.2 m
 have HI := Lib.hid (fun W hh => z19 x.t.n g.t b W hh (by have := sg.t; omega))
 have HFi := Lib.hid (fun h0 => ycn (b := b) m h0)
 obtain ⟨G, hG⟩ : ∃ G, G = blkG g b := ⟨_, rfl⟩
 obtain ⟨R, hR⟩ : ∃ R, R = ze9 g b := ⟨_, rfl⟩
 obtain ⟨E, hE⟩ : ∃ E, E = insE g.t b.root b.parent b.slot := ⟨_, rfl⟩
 obtain ⟨L, hL⟩ : ∃ L, L = insL g.t b.root b.parent b.slot b.just := ⟨_, rfl⟩
 obtain ⟨F, hF⟩ : ∃ F, F = zal g.t g.fin.root := ⟨_, rfl⟩
 obtain ⟨Y, hY⟩ : ∃ Y, Y = zb0 L F g.t.length := ⟨_, rfl⟩
 obtain ⟨N, hN⟩ : ∃ N, N = g.now.toNat := ⟨_, rfl⟩
 obtain ⟨S, hS⟩ : ∃ S, S = b.slot.toNat := ⟨_, rfl⟩
 have HR7 : Hid (N < S → R = 7 ∧ G = g) := fun e => by
  have e1 := z96 hm (b := b) (by rw [← hN, ← hS]; exact e)
  exact ⟨by rw [hR, e1], by rw [hG]; exact zks (by rw [e1]; decide)⟩
 have HRE : Hid (¬ N < S → E ≠ 0 → R = E ∧ G = g) := fun e e0 => by
  have e1 := z95 hm (b := b) (by rw [← hN, ← hS]; exact e) (by rw [← hE]; exact e0)
  exact ⟨by rw [hR, e1, hE], by rw [hG]; exact zks (by rw [e1, ← hE]; exact e0)⟩
 have HRO : Hid (¬ N < S → E = 0 → (Y = false → R = 8 ∧ G = g) ∧ (Y = true → R = 0 ∧ G = { g with t := L, w := g.w ++ [0] })) := fun e e0 => by
  have e1 := z97 hm (b := b) (by rw [← hN, ← hS]; exact e) (by rw [← hE]; exact e0)
  rw [← hL, ← hF, ← hY, ← hR] at e1
  refine ⟨fun hy => ?_, fun hy => ?_⟩
  ·
   rw [hy, if_neg (by decide)] at e1
   exact ⟨e1, by rw [hG]; exact zks (by rw [← hR, e1]; decide)⟩
  ·
   rw [hy, if_pos rfl] at e1
   exact ⟨e1, by rw [hG, yk0 (by rw [← hR]; exact e1), ← hL]⟩
 rw [← hE, ← hL] at HI
 rw [← hE, ← hL, ← hF] at HFi
 have HYd := Lib.hid hY
 rw [← hR, ← hG]
 obtain ⟨T, hT⟩ : ∃ T, T = w.heap.size := ⟨_, rfl⟩
 obtain ⟨U, hU⟩ : ∃ U, U = w.heap.size + 1 := ⟨_, rfl⟩
 obtain ⟨Q, hQ⟩ : ∃ Q, Q = w.heap.size + 2 := ⟨_, rfl⟩
 have HTQ : Hid (T = w.heap.size ∧ U = w.heap.size + 1 ∧ Q = w.heap.size + 2) := ⟨hT, hU, hQ⟩
 rw [← hQ, ← hT] at A
 rw [← hU] at M
 have HN := Lib.hid hN
 have HS := Lib.hid hS
 clear hW0 hB q0 q1 q2 h m sg hm hG hR hE hL hF hY hN hS hBw
 go_enter Tryz.func55, Tryz.ntmps55
 go_upto_region 1 with fail
 rw [← HW.out, ← hQ, ← hU, ← hT]
 clear hT hQ hU HW
 have z1 := A.out.s.v.zn
 have z2 := zpa M.out
 have z2' : W0.cell? ⟨U, 64, none⟩ = some (.int .u64 (S : Int)) := by rw [HS.out]; exact z2
 rw [← HN.out] at z1
 clear z2
 by_cases h1 : N < S
 ·
  have t1 : decide ((N : Int) < (S : Int)) = true := decide_eq_true (by omega)
  have t1' : decide (N < S) = true := decide_eq_true h1
  have HH := Lib.hid (HR7.out h1)
  have z := A.out.s.v.z
  have wr := A.out.wrR
  clear h1
  go_wp2_with fail
  have EE := (A.out.ret 7).b HBw.out (fun U hU => HOw.out.far hU)
  rw [HH.out.1, HH.out.2]
  exact bodyPost_ret (zbb Tryz.isAgg38 Tryz.sizeOf38 _ 4 5 rfl _ _ _ _ _ rfl rfl A.out.out) rfl EE
 have t1 : decide ((N : Int) < (S : Int)) = false := decide_eq_false (by omega)
 have t1' : decide (N < S) = false := decide_eq_false h1
 replace HRE := Lib.hid (HRE.out h1)
 replace HRO := Lib.hid (HRO.out h1)
 have zT := A.out.s.v.zT
 have zb := zag M.out (zj1 _)
 clear h1 HR7
 go_wp2_with fail
 refine (HI.out _ A.out.s.l.t).mono ?_
 rintro e w1 ⟨s, rfl, hs, hf, gg⟩
 have HlT : Hid (w.heap.size ≤ W0.heap.size) := A.out.s.bw.size
 have HNew : Hid (∀ b, (sv s).ownBlock = some b → w.heap.size ≤ b) := fun b hb => Nat.le_trans HlT.out (hf b hb)
 replace A := Lib.hid (A.out.keep gg)
 replace M := Lib.hid (zab gg M.out)
 clear gg zT zb z1 z2' t1 t1' hf HI
 go_upto_region 4 with fail
 obtain ⟨w2, hw2⟩ : ∃ w2, w2 = w1.alloc (.cells (tr ⟨s⟩) 24) := ⟨_, rfl⟩
 rw [← hw2]
 have gg : Below w1.heap.size w1 w2 := by rw [hw2]; exact below1
 have X6 : Hid (w2.heap[w1.heap.size]? = some (.cells (tr ⟨s⟩) 24 (0, 0))) := by show _ = _; rw [hw2]; exact heap_alloc_last _ _
 have HS2 := Lib.hid (zad gg hs)
 have H6 : Hid (w1.heap.size ≠ T) := by
  show _ ≠ _
  have := A.out.lT
  omega
 replace A := Lib.hid (A.out.keep gg)
 replace M := Lib.hid (zab gg M.out)
 obtain ⟨T6, hT6⟩ : ∃ n, n = w1.heap.size := ⟨_, rfl⟩
 rw [← hT6] at X6 H6 ⊢
 clear gg hw2 hs hT6
 by_cases h0 : E = 0
 case neg =>
  have HH := Lib.hid (HRE.out h0)
  have t0 : ((E : Int) == 0) = false := by simp; omega
  have t0n : ((E : Int) != 0) = true := by simp; omega
  have t0' : decide (E = 0) = false := decide_eq_false h0
  have z := A.out.s.v.z
  have wr := A.out.wrR
  clear h0
  go_wp2_with fail
  have EE := (A.out.ret E).b HBw.out (fun U hU => HOw.out.far hU)
  rw [HH.out.1, HH.out.2]
  exact bodyPost_ret (zbb Tryz.isAgg38 Tryz.sizeOf38 _ 4 5 rfl _ _ _ _ _ rfl rfl A.out.out) rfl EE
 case pos =>
 replace HRO := Lib.hid (HRO.out h0)
 replace HFi := Lib.hid (HFi.out h0)
 subst h0
 go_upto_region 6 with fail
 have Q1 := fun q : Wd w2.drew => za8 (zag X6.out (za9 _)) (by decide) q
 have Q2 := fun q : Wd w2.drew => za8 A.out.s.v.zr (by decide) q
 have Q3 := fun q : Wd w2.drew => za8 (zj0 M.out) (by decide) q
 refine zan [5, 9, 10] (by kernel_rfl) (by kernel_rfl) (by kernel_rfl) ?_
 repeat (refine zae rfl rfl _ zaf ?_; (first | go_big_quiet_step (fail) | quiet_step (fail)); refine wpQuiet_nil ?_)
 refine zau rfl rfl rfl zk4 #[.agg (tr ⟨s⟩), .agg (rc g.fin.root)] rfl ?_
 refine (zdh s L g.fin.root _ (zad (zak (Below.refl _ _) 1) HS2.out)).mono ?_
 rintro e u1 ⟨rfl, gg⟩
 rw [HFi.out.1]
 refine ⟨_, rfl, gg, ?_⟩
 simp only [Act.put, List.setIfInBounds_toArray, List.set_cons_zero, List.set_cons_succ]
 have GU : Hid (Below w2.heap.size w2 u1) := zac (zak (Below.refl _ _) 1) gg
 clear gg
 repeat (refine zae rfl rfl _ zaf ?_; (first | go_big_quiet_step (fail) | quiet_step (fail)); refine wpQuiet_nil ?_)
 refine zau rfl rfl rfl zk4 #[.agg (tr ⟨s⟩), .agg (rc b.root)] rfl ?_
 refine (zdh s L b.root _ (zad GU.out HS2.out)).mono ?_
 rintro e u2 ⟨rfl, gg⟩
 rw [HFi.out.2]
 refine ⟨_, rfl, gg, ?_⟩
 simp only [Act.put, List.setIfInBounds_toArray, List.set_cons_zero, List.set_cons_succ]
 replace GU : Hid (Below w2.heap.size w2 u2) := zac GU.out gg
 clear gg
 repeat (refine zae rfl rfl _ zaf ?_; (first | go_big_quiet_step (fail) | quiet_step (fail)); refine wpQuiet_nil ?_)
 refine zau rfl rfl rfl zru #[.agg (tr ⟨s⟩), .int .i64 F, .int .i64 (g.t.length : Int)] rfl ?_
 refine (zf2 s L F g.t.length _ (zad GU.out HS2.out)).mono ?_
 rintro e u3 ⟨rfl, gg⟩
 rw [← HYd.out]
 refine ⟨_, rfl, gg, ?_⟩
 simp only [Act.put, List.setIfInBounds_toArray, List.set_cons_zero, List.set_cons_succ]
 replace GU : Hid (Below w2.heap.size w2 u3) := zac GU.out gg
 clear gg
 repeat (refine zae rfl rfl _ zaf ?_; (first | go_big_quiet_step (fail) | quiet_step (fail)); refine wpQuiet_nil ?_)
 refine zbd ?_
 replace A := Lib.hid (A.out.keep GU.out)
 replace X6 := Lib.hid (zab GU.out X6.out)
 replace HS2 := Lib.hid (zad GU.out HS2.out)
 clear Q1 Q2 Q3 GU M
 cases Y
 ·
  have HH := Lib.hid (HRO.out.1 rfl)
  have z := A.out.s.v.z
  have wr := A.out.wrR
  go_wp2_with fail
  have EE := (A.out.ret 8).b HBw.out (fun U hU => HOw.out.far hU)
  rw [HH.out.1, HH.out.2]
  exact bodyPost_ret (zbb Tryz.isAgg38 Tryz.sizeOf38 _ 4 5 rfl _ _ _ _ _ rfl rfl A.out.out) rfl EE
 have HH := Lib.hid (HRO.out.2 rfl)
 clear HRO HRE HFi
 have z6 := zag X6.out (za9 _)
 have wt := A.out.s.wr 0 1 (by decide)
 go_upto_region 9 with fail
 have A3 := A.out.putT HS2.out
 obtain ⟨w3, hw3⟩ : ∃ w3, w3 = stA u3 (.pointer (some ⟨T, 0, none⟩)) (.agg (tr ⟨s⟩)) := ⟨_, rfl⟩
 rw [← hw3] at A3 ⊢
 replace A := Lib.hid A3
 clear A3 hw3 z6 wt X6 HS2
 have HWs : Hid (OwnE Enum w3 B (sv x.w) g.w) := zam A.out.s.bw HOw.out.w
 obtain ⟨⟨pw, nw, cw⟩, hsw⟩ : ∃ q : SlV, q = x.w := ⟨_, rfl⟩
 have HSw := Lib.hid hsw
 have HWl : Hid (g.w.length ≤ 1000) := HSg.out.w
 have zw : w3.cell? ⟨T, 4, none⟩ = some (.slice pw nw cw) := by rw [← za7, HSw.out]; exact A.out.s.v.zw
 rw [← hsw, za7] at HWs
 have HBt : Hid (B ≤ w3.heap.size) := Nat.le_trans HBw.out A.out.s.bw.size
 clear hsw
 go_wp2_with (at_builtin; refine zbs Knum _ rfl (.tmp 41) (.tmp 42) rfl B _ g.w rfl (zam below1 HWs.out) _ [0] rfl (zej _ [0] 1 _ _ _ rfl rfl (by simp [zaq, Enum, num])) (by have := HWl.out; simp; omega) (by have := HBt.out; simp; omega) ?_; intro v7 w7 ho7 hg7; obtain ⟨s7, rfl⟩ : ∃ s : SlV, v7 = sv s := (by obtain ⟨p, c, e, _⟩ := zar (zat ho7); exact ⟨⟨p, _, c⟩, e⟩); have PE : Hid (PutW w w7 B T Q { x with t := ⟨s⟩ } { g with t := L } s7 (g.w ++ [0])) := ynj HOw.out HBw.out A.out ⟨rfl, rfl, rfl, rfl, rfl⟩ HNew.out ho7 (by rw [← HSw.out, za7]; exact hg7); have zz := zoj PE.out.box; dsimp only at zz; have ff := frozen_of_row w7 T 4 _ _ PE.out.box; obtain ⟨⟨p7, n7, c7⟩, hs7⟩ : ∃ q : SlV, q = s7 := ⟨_, rfl⟩; rw [← hs7, za7]; have HS7 := Lib.hid hs7; clear ho7 hg7 hs7 zw; go_upto_region 10 with fail)
 have z := PE.out.bx
 have er := PE.out.er A.out.ne
 rw [← HS7.out, za7] at z er
 obtain ⟨w8, hw8⟩ : ∃ W : World, W = w7.setCell ⟨T, 4, none⟩ (.slice p7 n7 c7) := ⟨_, rfl⟩
 rw [← hw8] at z er ⊢
 have HW8 := Lib.hid hw8
 obtain ⟨q, hq⟩ := er
 have wr := za0 hq (zbc q)
 have HQ := Lib.hid hq
 clear zz ff hw8 hq
 go_wp2_with fail
 have EE := PE.out.ret 0
 rw [← HS7.out, za7, ← HW8.out] at EE
 rw [HH.out.1, HH.out.2]
 exact bodyPost_ret (zbb Tryz.isAgg38 Tryz.sizeOf38 _ 4 5 rfl _ _ _ _ _ rfl rfl (zag (zc4 HQ.out (by rw [zbc, zbc])) (zbc _))) rfl EE
theorem z6j {g : Eg} (m : MayS' g) : g.t.length ≤ 1000 ∧ g.bal.length ≤ 1000 ∧ g.v.l.length ≤ 999 ∧ g.w.length ≤ 1000 ∧ g.late.length ≤ 6 ∧ g.k.length ≤ 16 := by
 have h1 := (zer.1 m.bal).2.1
 have h2 := (zhm.1 m.late).1
 have h3 := (zd1.1 m.k).2
 have h4 := m.t.le
 exact ⟨by omega, by omega, by rw [m.vl]; omega, by rw [m.w, zrp m.fit]; omega, by omega, by omega⟩
section
open Go.RowKit
theorem Tryz.infoByte : (Tryz.prog.info? 5).map (fun i => (i.zero, i.size, i.bytes)) = some (some (.int .u8 0), 1, 1) := by kernel_rfl
theorem Tryz.sizeByte : (Tryz.prog.info? 5).map (·.size) = some 1 := by kernel_rfl
def Own (w : World) (base : Nat) (v : Value) (l : List UInt8) : Prop := w.ownsRow base 5 1 v l.length (b8 l)
def vOut (o : Option Value) (w : World) (r : Result Next) : Result Next :=
 match o with
 | some v => .ok (.value v) w
 | none => r
@[go_sem] theorem yq3 (v : Value) (w : World) (r : Result Next) : vOut (some v) w r = .ok (.value v) w := rfl
section
open Go.WideShapes Go.ChangeShapes
variable {H : Type} {enc : TypeId × Value → H} {w : World} {base : Nat} {sp : Nat → Bool} {held : Bool}
end
end
open Go.RowKit
structure Pr (w W : World) (B T R T6 : Nat) (x0 x : En) (g : Eg) (st : Value) (P : List Rt) : Prop where
 box : W.heap[T]? = some (.cells (en x) 38 (0, 0))
 r : EnAt W R
 l : LaidG W x g
 f : FarG T x g
 fr : FarG R x g
 ff : ∀ U, EnAt w U → FarG U x g ∧ W.heap[U]? = w.heap[U]?
 bw : Below B w W
 sz : w.heap.size ≤ W.heap.size
 s6 : W.heap[T6]? = some (.cells #[st] 130 (0, 0))
 sl : SlE Ert W st P
 sn : ∀ b, st.ownBlock = some b → w.heap.size ≤ b
 sT : st.ownBlock ≠ some T
 tn : ∀ b, (sv x.t.n).ownBlock = some b → w.heap.size ≤ b
 vn : ∀ b, (sv x.v.l).ownBlock = some b → w.heap.size ≤ b
 wn : ∀ b, (sv x.w).ownBlock = some b → w.heap.size ≤ b
 kn : ∀ b, (sv x.k).ownBlock = some b → (sv x0.k).ownBlock = some b
 bal : x.bal = x0.bal
 late : x.late = x0.late
 lo : w.heap.size ≤ T
 lr : w.heap.size ≤ R
 l6 : w.heap.size ≤ T6
 n6 : T6 ≠ T
 nr : R ≠ T
section
variable {w W W' : World} {B T R T6 : Nat} {x0 x : En} {g0 g : Eg} {st : Value} {P : List Rt} {s : SlV}
theorem Pr.keepS {α : Type} {E : Lie α} {v : Value} {l : List α} {r : Option Nat} (hg : W.grownBy W' r) (h : SlE E W v l) (hb : ∀ b, v.ownBlock = some b → r ≠ some b) : SlE E W' v l := zd6 h hg.size fun b hl e => hg.block b hl (fun e2 => hb b e e2.symm)
theorem z1u {α : Type} {E : Lie α} {v y : Value} {l : List α} {o : Nat} (h : SlE E W v l) (hn : v.ownBlock ≠ some T) : SlE E (W.setCell ⟨T, o, none⟩ y) v l := zd6 h (zcm _ _) fun b _ e => zcb _ _ b (fun e2 => hn (by rw [e, e2]))
theorem Pr.stepK (h : Pr w W B T R T6 x0 x g st P) (hO : OwnG w B x0 g0) (hB : B ≤ w.heap.size) (hk : x.k = x0.k) (hj : x.j = x0.j) (oj : OwnE Ecc W B (sv x0.j) g0.j) {l' : List Lk} (hg : W.grownBy W' (sv x.k).ownBlock) (hs : SlE Elk W' (sv s) l') (hb : ∀ b, (sv s).ownBlock = some b → (sv x.k).ownBlock = some b) :
  Pr w (W'.setCell ⟨T, 6, none⟩ (sv s)) B T R T6 x0 { x with k := s } { g with k := l' } st P ∧ OwnE Ecc (W'.setCell ⟨T, 6, none⟩ (sv s)) B (sv x0.j) g0.j := by
 have hlt : ∀ b, (sv x.k).ownBlock = some b → b < w.heap.size := fun b hb => (zbi hO.k (by rw [← hk]; exact hb)).2
 have hold : ∀ b, w.heap.size ≤ b → (sv x.k).ownBlock ≠ some b := fun b hb e => by have := hlt b e; omega
 have hblk : ∀ b, b < W.heap.size → w.heap.size ≤ b → W'.heap[b]? = W.heap[b]? := fun b h1 h2 => hg.block b h1 (fun e => hold b h2 e.symm)
 have lT : T < W.heap.size := (Array.getElem?_eq_some_iff.1 h.box).1
 have l6 : T6 < W.heap.size := (Array.getElem?_eq_some_iff.1 h.s6).1
 have hbx : W'.heap[T]? = some (.cells (en x) 38 (0, 0)) := (hblk T lT h.lo).trans h.box
 have hnew : ∀ {v : Value}, (∀ b, v.ownBlock = some b → w.heap.size ≤ b) → ∀ b, v.ownBlock = some b → (sv x.k).ownBlock ≠ some b := fun h1 b e e2 => by have := h1 b e; have := hlt b e2; omega
 have ap : ∀ {α : Type} {E : Lie α} {u : SlV} {l : List α}, OwnE E w B (sv u) l → Elk.t ≠ E.t → ∀ b, (sv u).ownBlock = some b → (sv x.k).ownBlock ≠ some b := fun h1 h2 b e e2 => zgy hO.k h1 h2 b (by rw [← hk]; exact e2) e
 have nX : ∀ U, EnAt w U → (sv x.k).ownBlock ≠ some U := fun U hU e => by
  obtain ⟨c, hc⟩ := zjd hO.k (by rw [← hk]; exact e)
  obtain ⟨z, hz⟩ := hU
  rw [hz] at hc
  injection hc with hc
  injection hc with _ hc
  exact zrh.2.2.2.2.1 hc.symm
 have nE : ∀ U, EnAt w U → (sv s).ownBlock ≠ some U := fun U hU e => nX U hU (hb U e)
 have keU : ∀ U, EnAt w U → (W'.setCell ⟨T, 6, none⟩ (sv s)).heap[U]? = w.heap[U]? := fun U hU => (zcb _ _ U (fun e => by have := hU.lt; have := h.lo; omega)).trans ((hg.block U (Nat.lt_of_lt_of_le hU.lt h.sz) (fun e => nX U hU e.symm)).trans (h.ff U hU).2)
 have fk : ∀ U, w.heap.size ≤ U → FarE U s l' := fun U hU => .inr fun e => by have := hlt U (hb U e); omega
 have L : LaidG W' { x with k := s } { g with k := l' } := ⟨Pr.keepS hg h.l.t (hnew h.tn), Pr.keepS hg h.l.bal (by rw [h.bal]; exact ap hO.bal yip.2.2.2.1), Pr.keepS hg h.l.v (hnew h.vn), Pr.keepS hg h.l.w (hnew h.wn), Pr.keepS hg h.l.late (by rw [h.late]; exact ap hO.late yip.2.2.1), hs, Pr.keepS hg h.l.j (by rw [hj]; exact ap hO.j yip.2.2.2.2), h.l.out, h.l.fin, h.l.now⟩
 have F : FarG T { x with k := s } { g with k := l' } := h.f.setK (fk T h.lo)
 have bw' : Below B w W' := h.bw.grown hg (Nat.le_trans hB h.sz) fun b e => (zbi hO.k (by rw [← hk]; exact e)).1
 refine ⟨⟨by rw [za4 hbx 6 (sv s), z3c], ?_, L.put F (zcm _ _) (zcb _ _), F, h.fr.setK (fk R h.lr), fun U hU => ⟨(h.ff U hU).1.setK (.inr fun e => nE U hU e), keU U hU⟩, bw'.setCell (p := ⟨T, 6, none⟩) (Nat.le_trans hB h.lo) _, Nat.le_trans (Nat.le_trans h.sz hg.size) (zcm _ _), ?_, ?_, h.sn, h.sT, h.tn, h.vn, h.wn, fun b e => by rw [← hk]; exact hb b e, h.bal, h.late, h.lo, h.lr, h.l6, h.n6, h.nr⟩, ?_⟩
 ·
  refine zv4 _ _ h.nr ?_
  obtain ⟨z, hz⟩ := h.r
  exact ⟨z, (hblk R (Array.getElem?_eq_some_iff.1 hz).1 h.lr).trans hz⟩
 ·
  exact (zcb _ _ T6 h.n6).trans ((hblk T6 l6 h.l6).trans h.s6)
 ·
  exact z1u (Pr.keepS hg h.sl (hnew h.sn)) h.sT
 ·
  have o1 : OwnE Ecc W' B (sv x0.j) g0.j := zc7 oj fun b h1 e => hg.block b h1 fun e2 => ap hO.j yip.2.2.2.2 b e e2.symm
  exact zc7 o1 fun b _ e => zcb _ _ b fun e2 => by have := (zbi hO.j e).2; have := h.lo; omega
theorem Pr.stepJ (h : Pr w W B T R T6 x0 x g st P) (hO : OwnG w B x0 g0) (hB : B ≤ w.heap.size) (hj : x.j = x0.j) {l' : List Ck} (hg : W.grownBy W' (sv x.j).ownBlock) (hs : SlE Ecc W' (sv s) l') (hb : ∀ b, (sv s).ownBlock = some b → (sv x.j).ownBlock = some b) :
  Pr w (W'.setCell ⟨T, 7, none⟩ (sv s)) B T R T6 x0 { x with j := s } { g with j := l' } st P := by
 have hlt : ∀ b, (sv x.j).ownBlock = some b → b < w.heap.size := fun b hb => (zbi hO.j (by rw [← hj]; exact hb)).2
 have hold : ∀ b, w.heap.size ≤ b → (sv x.j).ownBlock ≠ some b := fun b hb e => by have := hlt b e; omega
 have hblk : ∀ b, b < W.heap.size → w.heap.size ≤ b → W'.heap[b]? = W.heap[b]? := fun b h1 h2 => hg.block b h1 (fun e => hold b h2 e.symm)
 have lT : T < W.heap.size := (Array.getElem?_eq_some_iff.1 h.box).1
 have l6 : T6 < W.heap.size := (Array.getElem?_eq_some_iff.1 h.s6).1
 have hbx : W'.heap[T]? = some (.cells (en x) 38 (0, 0)) := (hblk T lT h.lo).trans h.box
 have hnew : ∀ {v : Value}, (∀ b, v.ownBlock = some b → w.heap.size ≤ b) → ∀ b, v.ownBlock = some b → (sv x.j).ownBlock ≠ some b := fun h1 b e e2 => by have := h1 b e; have := hlt b e2; omega
 have ap : ∀ {α : Type} {E : Lie α} {u : SlV} {l : List α}, OwnE E w B (sv u) l → Ecc.t ≠ E.t → ∀ b, (sv u).ownBlock = some b → (sv x.j).ownBlock ≠ some b := fun h1 h2 b e e2 => zgy hO.j h1 h2 b (by rw [← hj]; exact e2) e
 have nX : ∀ U, EnAt w U → (sv x.j).ownBlock ≠ some U := fun U hU e => by
  obtain ⟨c, hc⟩ := zjd hO.j (by rw [← hj]; exact e)
  obtain ⟨z, hz⟩ := hU
  rw [hz] at hc
  injection hc with hc
  injection hc with _ hc
  exact zrh.2.2.2.2.2 hc.symm
 have nE : ∀ U, EnAt w U → (sv s).ownBlock ≠ some U := fun U hU e => nX U hU (hb U e)
 have keU : ∀ U, EnAt w U → (W'.setCell ⟨T, 7, none⟩ (sv s)).heap[U]? = w.heap[U]? := fun U hU => (zcb _ _ U (fun e => by have := hU.lt; have := h.lo; omega)).trans ((hg.block U (Nat.lt_of_lt_of_le hU.lt h.sz) (fun e => nX U hU e.symm)).trans (h.ff U hU).2)
 have fj : ∀ U, w.heap.size ≤ U → FarE U s l' := fun U hU => .inr fun e => by have := hlt U (hb U e); omega
 have L : LaidG W' { x with j := s } { g with j := l' } := ⟨Pr.keepS hg h.l.t (hnew h.tn), Pr.keepS hg h.l.bal (by rw [h.bal]; exact ap hO.bal yoa.2.2.2.1), Pr.keepS hg h.l.v (hnew h.vn), Pr.keepS hg h.l.w (hnew h.wn), Pr.keepS hg h.l.late (by rw [h.late]; exact ap hO.late yoa.2.2.1), Pr.keepS hg h.l.k (fun b e => ap hO.k yoa.2.2.2.2 b (h.kn b e)), hs, h.l.out, h.l.fin, h.l.now⟩
 have F : FarG T { x with j := s } { g with j := l' } := h.f.setJ (fj T h.lo)
 have bw' : Below B w W' := h.bw.grown hg (Nat.le_trans hB h.sz) fun b e => (zbi hO.j (by rw [← hj]; exact e)).1
 refine ⟨by rw [za4 hbx 7 (sv s), z3b], ?_, L.put F (zcm _ _) (zcb _ _), F, h.fr.setJ (fj R h.lr), fun U hU => ⟨(h.ff U hU).1.setJ (.inr fun e => nE U hU e), keU U hU⟩, bw'.setCell (p := ⟨T, 7, none⟩) (Nat.le_trans hB h.lo) _, Nat.le_trans (Nat.le_trans h.sz hg.size) (zcm _ _), ?_, ?_, h.sn, h.sT, h.tn, h.vn, h.wn, h.kn, h.bal, h.late, h.lo, h.lr, h.l6, h.n6, h.nr⟩
 ·
  refine zv4 _ _ h.nr ?_
  obtain ⟨z, hz⟩ := h.r
  exact ⟨z, (hblk R (Array.getElem?_eq_some_iff.1 hz).1 h.lr).trans hz⟩
 ·
  exact (zcb _ _ T6 h.n6).trans ((hblk T6 l6 h.l6).trans h.s6)
 ·
  exact z1u (Pr.keepS hg h.sl (hnew h.sn)) h.sT
theorem Pr.ret (h : Pr w W B T R T6 x0 x g st P) (hB : B ≤ w.heap.size) (n : Nat) : EgErB g n B w (.returned (.tuple #[.agg (en x), .int .i64 (n : Int)])) (stA W (.pointer (some ⟨R, 0, none⟩)) (.agg (en x))) :=
 ⟨x, rfl, h.l.put h.fr (zfd _ _) (zcq _ _), zap h.bw (Nat.le_trans hB h.lr), fun U hU => ⟨(h.ff U hU).1, (zcq _ _ U (fun e => by have := hU.lt; have := h.lr; omega)).trans (h.ff U hU).2⟩⟩
theorem Pr.wrR (h : Pr w W B T R T6 x0 x g st P) : wrA W (.pointer (some ⟨R, 0, none⟩)) 42 = true := by
 obtain ⟨z, hz⟩ := h.r
 exact za0 hz (zbc z)
theorem Pr.out (h : Pr w W B T R T6 x0 x g st P) : ldA (stA W (.pointer (some ⟨R, 0, none⟩)) (.agg (en x))) (.pointer (some ⟨R, 0, none⟩)) 42 = some (en x) := by
 obtain ⟨z, hz⟩ := h.r
 exact zag (zc4 hz (by rw [zbc, zbc])) (zbc x)
theorem Pr.grown (h : Pr w W B T R T6 x0 x g st P) {u : SlV} (hu : ∀ b, (sv u).ownBlock = some b → b < w.heap.size) (hg : W.grownBy W' (sv u).ownBlock) :
  W'.heap[T6]? = some (.cells #[st] 130 (0, 0)) ∧ SlE Ert W' st P ∧ W'.heap[T]? = some (.cells (en x) 38 (0, 0)) := by
 have hblk : ∀ b, b < W.heap.size → w.heap.size ≤ b → W'.heap[b]? = W.heap[b]? := fun b h1 h2 => hg.block b h1 (fun e => by have := hu b e.symm; omega)
 exact ⟨(hblk T6 (Array.getElem?_eq_some_iff.1 h.s6).1 h.l6).trans h.s6, Pr.keepS hg h.sl (fun b e e2 => by have := h.sn b e; have := hu b e2; omega), (hblk T (Array.getElem?_eq_some_iff.1 h.box).1 h.lo).trans h.box⟩
end
theorem zoh {w : World} {b : Nat} {v : Value} {t : TypeId} (h : w.heap[b]? = some (.cells #[v] t (0, 0))) : w.cell? ⟨b, 0, none⟩ = some v := by
 rw [cell_of_row _ _ _ _ _ _ h]; rfl
def goK (P : List Rt) (fin : Ck) (x : Lk) : Bool := !decide (x.s.root ∈ P) || (!decide (x.t.root ∈ P) || decide (x.t.epoch.toNat ≤ fin.epoch.toNat))
def goJ (P : List Rt) (fin c : Ck) : Bool := !decide (c.root ∈ P) || decide (c.epoch.toNat < fin.epoch.toNat)
theorem ygg {t : List Nd} (h : MayT t) (fin : Ck) (x : Lk) : (!goK (zb7 t) fin x) = zsb t fin x := by
 have e1 : decide (x.s.root ∈ zb7 t) = inT t x.s.root := by rw [Bool.eq_iff_iff, decide_eq_true_iff]; exact ziu h _
 have e2 : decide (x.t.root ∈ zb7 t) = inT t x.t.root := by rw [Bool.eq_iff_iff, decide_eq_true_iff]; exact ziu h _
 have e3 : decide (fin.epoch.toNat < x.t.epoch.toNat) = !decide (x.t.epoch.toNat ≤ fin.epoch.toNat) := by rw [← decide_not]; exact decide_eq_decide.2 (by omega)
 unfold goK zsb
 rw [e1, e2, e3]
 cases inT t x.s.root <;> cases inT t x.t.root <;> simp
theorem ygf {t : List Nd} (h : MayT t) (fin c : Ck) : (!goJ (zb7 t) fin c) = zwa t fin c := by
 have e1 : decide (c.root ∈ zb7 t) = inT t c.root := by rw [Bool.eq_iff_iff, decide_eq_true_iff]; exact ziu h _
 have e3 : decide (fin.epoch.toNat ≤ c.epoch.toNat) = !decide (c.epoch.toNat < fin.epoch.toNat) := by rw [← decide_not]; exact decide_eq_decide.2 (by omega)
 unfold goJ zwa
 rw [e1, e3]
 cases inT t c.root <;> simp
theorem z7d (T6 T : Nat) (vs : Value) (P : List Rt) (z : En) (x : Lk) (w : World) (h6 : w.heap[T6]? = some (.cells #[vs] 130 (0, 0))) (hs : SlE Ert w vs P) (hP : P.length ≤ 9000) (hT : w.heap[T]? = some (.cells (en z) 38 (0, 0))) :
  Calls Tryz.prog 169 #[.agg (lk x), .pointer (some ⟨T6, 0, none⟩), .pointer (some ⟨T, 0, none⟩)] w fun e w' => e = .returned (.bool (goK P z.fin x)) ∧ Below w.heap.size w w' := by
 obtain ⟨W0, hW0⟩ : ∃ W0, W0 = w.alloc (.cells (lk x) 118) := ⟨_, rfl⟩
 have HB : Hid (Below w.heap.size w W0) := by rw [hW0]; exact below1
 have X : Hid (W0.heap[w.heap.size]? = some (.cells (lk x) 118 (0, 0))) := by show _ = _; rw [hW0]; exact heap_alloc_last w _
 have H6 := Lib.hid h6
 have HT := Lib.hid hT
 have HW := Lib.hid hW0
 have HC := Lib.hid (fun r W (b : Below w.heap.size w W) => zmm vs P r W (zad b hs) hP)
 obtain ⟨b1, hb1⟩ : ∃ b, b = decide (x.s.root ∈ P) := ⟨_, rfl⟩
 obtain ⟨b2, hb2⟩ : ∃ b, b = decide (x.t.root ∈ P) := ⟨_, rfl⟩
 obtain ⟨A, hA⟩ : ∃ n, n = x.t.epoch.toNat := ⟨_, rfl⟩
 obtain ⟨D, hD⟩ : ∃ n, n = z.fin.epoch.toNat := ⟨_, rfl⟩
 obtain ⟨b3, hb3⟩ : ∃ b, b = decide (A ≤ D) := ⟨_, rfl⟩
 have HF : Hid (goK P z.fin x = (!b1 || (!b2 || b3))) := by show _ = _; unfold goK; rw [hb1, hb2, hb3, hA, hD]
 have H1 : Hid (∀ W, Below w.heap.size w W → Calls Tryz.prog 92 #[vs, .agg (rc x.s.root)] W fun e w' => e = .returned (.bool b1) ∧ Below W.heap.size W w') := by show ∀ _, _; rw [hb1]; exact HC.out _
 have H2 : Hid (∀ W, Below w.heap.size w W → Calls Tryz.prog 92 #[vs, .agg (rc x.t.root)] W fun e w' => e = .returned (.bool b2) ∧ Below W.heap.size W w') := by show ∀ _, _; rw [hb2]; exact HC.out _
 have HA := Lib.hid hA
 have HD := Lib.hid hD
 have t1 : decide ((A : Int) ≤ (D : Int)) = b3 := by rw [hb3]; exact decide_eq_decide.2 (by omega)
 have t1' : decide (A ≤ D) = b3 := hb3.symm
 obtain ⟨r, hr⟩ : ∃ r, r = goK P z.fin x := ⟨_, rfl⟩
 rw [← hr] at HF ⊢
 clear hW0 h6 hs hP hT HC hb1 hb2 hb3 hA hD hr
 have y6 := zoh (zab HB.out H6.out)
 have z1 := zll X.out
 go_enter Tryz.func169, Tryz.ntmps169
 go_upto_region 1 with fail
 rw [← HW.out]
 go_wp2_with fail
 refine (H1.out _ HB.out).mono ?_
 rintro e w1 ⟨rfl, gg⟩
 have G1 := Lib.hid (zac HB.out gg)
 replace X := Lib.hid (zab gg X.out)
 clear gg z1 y6
 cases b1
 ·
  go_wp2_with fail
  go_ret
  exact ⟨by rw [HF.out]; first | done | rfl, G1.out⟩
 have y6 := zoh (zab G1.out H6.out)
 have z1 := zlm X.out
 go_wp2_with fail
 refine (H2.out _ G1.out).mono ?_
 rintro e w2 ⟨rfl, gg⟩
 replace G1 := Lib.hid (zac G1.out gg)
 replace X := Lib.hid (zab gg X.out)
 clear gg z1 y6
 cases b2
 ·
  go_wp2_with fail
  go_ret
  exact ⟨by rw [HF.out]; first | done | rfl, G1.out⟩
 have z1 : w2.cell? ⟨w.heap.size, 33, none⟩ = some (.int .u64 (A : Int)) := by rw [HA.out]; exact zjt X.out
 have z2 : w2.cell? ⟨T, 8, none⟩ = some (.int .u64 (D : Int)) := by rw [HD.out]; exact zhu (zab G1.out HT.out)
 go_wp2_with fail
 go_ret
 exact ⟨by rw [HF.out]; first | done | rfl, G1.out⟩
theorem zmw : ∀ args w, (callFunc 169 args).run Tryz.prog w = .ok (.enter 169 args) w := zbe Tryz.func169 (by kernel_rfl) (by kernel_rfl)
theorem z7e (T6 T : Nat) (vs : Value) (P : List Rt) (z : En) (x : Ck) (w : World) (h6 : w.heap[T6]? = some (.cells #[vs] 130 (0, 0))) (hs : SlE Ert w vs P) (hP : P.length ≤ 9000) (hT : w.heap[T]? = some (.cells (en z) 38 (0, 0))) :
  Calls Tryz.prog 170 #[.agg (cc x), .pointer (some ⟨T6, 0, none⟩), .pointer (some ⟨T, 0, none⟩)] w fun e w' => e = .returned (.bool (goJ P z.fin x)) ∧ Below w.heap.size w w' := by
 obtain ⟨W0, hW0⟩ : ∃ W0, W0 = w.alloc (.cells (cc x) 36) := ⟨_, rfl⟩
 have HB : Hid (Below w.heap.size w W0) := by rw [hW0]; exact below1
 have X : Hid (W0.heap[w.heap.size]? = some (.cells (cc x) 36 (0, 0))) := by show _ = _; rw [hW0]; exact heap_alloc_last w _
 have H6 := Lib.hid h6
 have HT := Lib.hid hT
 have HW := Lib.hid hW0
 obtain ⟨b1, hb1⟩ : ∃ b, b = decide (x.root ∈ P) := ⟨_, rfl⟩
 obtain ⟨A, hA⟩ : ∃ n, n = x.epoch.toNat := ⟨_, rfl⟩
 obtain ⟨D, hD⟩ : ∃ n, n = z.fin.epoch.toNat := ⟨_, rfl⟩
 obtain ⟨b3, hb3⟩ : ∃ b, b = decide (A < D) := ⟨_, rfl⟩
 have HF : Hid (goJ P z.fin x = (!b1 || b3)) := by show _ = _; unfold goJ; rw [hb1, hb3, hA, hD]
 have H1 : Hid (∀ W, Below w.heap.size w W → Calls Tryz.prog 92 #[vs, .agg (rc x.root)] W fun e w' => e = .returned (.bool b1) ∧ Below W.heap.size W w') := by show ∀ _, _; rw [hb1]; exact fun W b => zmm vs P _ W (zad b hs) hP
 have HA := Lib.hid hA
 have HD := Lib.hid hD
 have t1 : decide ((A : Int) < (D : Int)) = b3 := by rw [hb3]; exact decide_eq_decide.2 (by omega)
 have t1' : decide (A < D) = b3 := hb3.symm
 obtain ⟨r, hr⟩ : ∃ r, r = goJ P z.fin x := ⟨_, rfl⟩
 rw [← hr] at HF ⊢
 clear hW0 h6 hs hP hT hb1 hb3 hA hD hr
 have y6 := zoh (zab HB.out H6.out)
 have z1 := zdr X.out
 go_enter Tryz.func170, Tryz.ntmps170
 go_upto_region 1 with fail
 rw [← HW.out]
 go_wp2_with fail
 refine (H1.out _ HB.out).mono ?_
 rintro e w1 ⟨rfl, gg⟩
 have G1 := Lib.hid (zac HB.out gg)
 replace X := Lib.hid (zab gg X.out)
 clear gg z1 y6
 cases b1
 ·
  go_wp2_with fail
  go_ret
  exact ⟨by rw [HF.out]; first | done | rfl, G1.out⟩
 have z1 : w1.cell? ⟨w.heap.size, 0, none⟩ = some (.int .u64 (A : Int)) := by rw [HA.out]; exact zh7 X.out
 have z2 : w1.cell? ⟨T, 8, none⟩ = some (.int .u64 (D : Int)) := by rw [HD.out]; exact zhu (zab G1.out HT.out)
 go_wp2_with fail
 go_ret
 exact ⟨by rw [HF.out]; first | done | rfl, G1.out⟩
theorem zmx : ∀ args w, (callFunc 170 args).run Tryz.prog w = .ok (.enter 170 args) w := zbe Tryz.func170 (by kernel_rfl) (by kernel_rfl)
end Go.Proofs.YtkalofboioffiaaGreat
