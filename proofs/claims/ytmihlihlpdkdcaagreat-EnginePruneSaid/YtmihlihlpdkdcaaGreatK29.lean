import Derived.Test.YtmihlihlpdkdcaaGreatK28
import Derived.Test.YtmihlihlpdkdcaaGreatK12
import Derived.Test.YtmihlihlpdkdcaaGreatK15
import Derived.Test.YtmihlihlpdkdcaaGreatK17
import Derived.Test.YtmihlihlpdkdcaaGreatQ09
import Derived.Deep.Cut
import Derived.Test.YtmihlihlpdkdcaaGreatQ06
namespace Go.Proofs.YtmihlihlpdkdcaaGreat
open Go.RowKit
set_option maxRecDepth 200000
set_option maxHeartbeats 64000000
theorem yog (s t t' : SlV) (u : Value) (l : List Nd) (v o : Vt) (bal : List UInt64) (w W : World) (hW : W = ((w.alloc (.cells (vo ⟨t', o.out⟩) 32)).alloc (.cells (vo ⟨t, v.out⟩) 32)).alloc (.cells #[u] 24)) (h : SlE Ene w (sv s) l) (h1 : SlE Elt w (sv t) v.l) (h1' : SlE Elt w (sv t') o.l) (h2 : SlE Enum w u bal) (hf : fitB l v bal = true) (hf' : fitB l o bal = true) :
  Calls Tryz.prog 125 #[.agg (tr ⟨s⟩), .func (.func 148) #[] #[.pointer (some ⟨w.heap.size + 1, 0, none⟩), .pointer (some ⟨w.heap.size, 0, none⟩), .pointer (some ⟨w.heap.size + 1 + 1, 0, none⟩)]] W fun e w' => ∃ x, e = .returned x ∧ OwnE Enum w' W.heap.size x (zde (zlo l v o bal) l.length) ∧ Below W.heap.size W w' := by
 obtain ⟨hm, hv, hbal, e1⟩ := zfd.1 hf
 obtain ⟨_, _, _, e2⟩ := zfd.1 hf'
 have hl := zdm h
 have hvl := ziu h1
 have hol := ziu h1'
 obtain ⟨b1, b2, _⟩ := zfl.1 hbal
 obtain ⟨g, k0, k1, k2, hz⟩ := zfw w _ _ _ _ _ _ W hW
 obtain ⟨p, n, cp⟩ := s
 obtain ⟨q, m, cq⟩ := t
 obtain ⟨q', m', cq'⟩ := t'
 dsimp only at hl hvl hol
 obtain ⟨r, cr, rfl, _⟩ := zaj h2
 obtain rfl : m' = m := by omega
 have hbl : bal.length = m' := by omega
 rw [hbl] at h2 k2 hW
 obtain ⟨p1, o1, rfl, q1, x1⟩ := zk5 h1 (by have := (zct.1 hv).1; omega)
 obtain ⟨p2, o2, rfl, q2, x2⟩ := zk5 h1' (by have := (zct.1 hv).1; omega)
 obtain ⟨p3, o3, rfl, q3, x3⟩ := zcz h2 (by have := (zct.1 hv).1; omega)
 have hs := g.size
 rw [hl]
 exact yil (w.heap.size + 1) w.heap.size (w.heap.size + 1 + 1) n cp p1 o1 cq p2 o2 cq' p3 o3 cr m' p l v o bal W (zac g h) hm hl (by have := (zct.1 hv).2.1; omega) hvl hol hbl (yr5 hbal) (by omega) (by omega) (by omega) k1 k0 k2 (zhd g x1) (zhd g x2) (zhd g x3)
theorem ygf (p q q' r : Option Addr) (n cp m cq m' cq' k cr : Nat) (l : List Nd) (was is : Vt) (bal : List UInt64) (w : World) (h : SlE Ene w (.slice p n cp) l) (h1 : SlE Elt w (.slice q m cq) was.l) (h1' : SlE Elt w (.slice q' m' cq') is.l) (h2 : SlE Enum w (.slice r k cr) bal) :
  Calls Tryz.prog 95 #[.agg (tr ⟨⟨p, n, cp⟩⟩), .agg (vo ⟨⟨q, m, cq⟩, was.out⟩), .agg (vo ⟨⟨q', m', cq'⟩, is.out⟩), .slice r k cr] w (ysc (zix l was is bal) (zez l was is bal) (ofB l was is bal) w) := by
 have HF1 := Lib.hid (fun W (g : Below w.heap.size w W) => ygj ⟨p, n, cp⟩ ⟨q, m, cq⟩ (.slice r k cr) l was bal W (zac g h) (zac g h1) (zac g h2))
 have HF2 := Lib.hid (fun W (g : Below w.heap.size w W) => ygj ⟨p, n, cp⟩ ⟨q', m', cq'⟩ (.slice r k cr) l is bal W (zac g h) (zac g h1') (zac g h2))
 have HS1 : Hid (fitB l was bal = true → fitB l is bal = true → ∀ V, Below w.heap.size w V → ∀ W, W = ((V.alloc (.cells (vo ⟨⟨q, m, cq⟩, was.out⟩) 32)).alloc (.cells (vo ⟨⟨q', m', cq'⟩, is.out⟩) 32)).alloc (.cells #[.slice r k cr] 24) →
   Calls Tryz.prog 125 #[.agg (tr ⟨⟨p, n, cp⟩⟩), .func (.func 148) #[] #[.pointer (some ⟨V.heap.size + 1, 0, none⟩), .pointer (some ⟨V.heap.size, 0, none⟩), .pointer (some ⟨V.heap.size + 1 + 1, 0, none⟩)]] W (fun e w' => ∃ u, e = .returned u ∧ OwnE Enum w' W.heap.size u (zix l was is bal) ∧ Below W.heap.size W w')) := fun f1 f2 V g W hW => by
  rw [znm (ztk.2 ⟨f1, f2⟩)]
  exact yog ⟨p, n, cp⟩ ⟨q', m', cq'⟩ ⟨q, m, cq⟩ (.slice r k cr) l is was bal V W hW (zac g h) (zac g h1') (zac g h1) (zac g h2) f2 f1
 have HS2 : Hid (fitB l was bal = true → fitB l is bal = true → ∀ V, Below w.heap.size w V → ∀ W, W = ((V.alloc (.cells (vo ⟨⟨q', m', cq'⟩, is.out⟩) 32)).alloc (.cells (vo ⟨⟨q, m, cq⟩, was.out⟩) 32)).alloc (.cells #[.slice r k cr] 24) →
   Calls Tryz.prog 125 #[.agg (tr ⟨⟨p, n, cp⟩⟩), .func (.func 148) #[] #[.pointer (some ⟨V.heap.size + 1, 0, none⟩), .pointer (some ⟨V.heap.size, 0, none⟩), .pointer (some ⟨V.heap.size + 1 + 1, 0, none⟩)]] W (fun e w' => ∃ u, e = .returned u ∧ OwnE Enum w' W.heap.size u (zez l was is bal) ∧ Below W.heap.size W w')) := fun f1 f2 V g W hW => by
  rw [zpo (ztk.2 ⟨f1, f2⟩)]
  exact yog ⟨p, n, cp⟩ ⟨q, m, cq⟩ ⟨q', m', cq'⟩ (.slice r k cr) l was is bal V W hW (zac g h) (zac g h1) (zac g h1') (zac g h2) f1 f2
 have HNo : Hid (ofB l was is bal = false → zix l was is bal = [] ∧ zez l was is bal = []) := fun e => ⟨z6o e, yg5 e⟩
 obtain ⟨f1, hf1⟩ : ∃ f, f = fitB l was bal := ⟨_, rfl⟩
 obtain ⟨f2, hf2⟩ : ∃ f, f = fitB l is bal := ⟨_, rfl⟩
 have ho : ofB l was is bal = (f1 && f2) := by unfold ofB; rw [hf1, hf2]
 rw [ho] at HNo
 rw [ho]
 rw [← hf1] at HF1 HS1 HS2
 rw [← hf2] at HF2 HS1 HS2
 generalize zix l was is bal = P at *
 generalize zez l was is bal = M at *
 obtain ⟨W0, hW0⟩ : ∃ W0, W0 = ((w.alloc (.cells (tr ⟨⟨p, n, cp⟩⟩) 28)).alloc (.cells (vo ⟨⟨q, m, cq⟩, was.out⟩) 32)).alloc (.cells (vo ⟨⟨q', m', cq'⟩, is.out⟩) 32) := ⟨_, rfl⟩
 obtain ⟨hB, k0, k1, k2, hz0⟩ := zfw w _ _ _ _ _ _ W0 hW0
 have HB := Lib.hid hB
 have HW := Lib.hid hW0
 have K0 := Lib.hid k0
 have K1 := Lib.hid k1
 have K2 := Lib.hid k2
 clear hW0 h h1 h1' h2 hB k0 k1 k2 hz0 hf1 hf2 ho
 have z1 := (za2 K0.out).2.1
 have y1 := (zbn K1.out).2.2.1
 go_enter Tryz.func95, Tryz.ntmps95
 go_wp2_with fail
 rw [← HW.out]
 go_wp2_with fail
 refine (HF1.out W0 HB.out).mono ?_
 rintro e w1 ⟨rfl, g1⟩
 have G1 := Lib.hid (zad HB.out g1)
 have M0 := Lib.hid (zab g1 K0.out)
 have M1 := Lib.hid (zab g1 K1.out)
 have M2 := Lib.hid (zab g1 K2.out)
 clear g1 z1 y1
 have z1 := (za2 M0.out).2.1
 have y2 := (zbn M2.out).2.2.1
 cases f1
 ·
  obtain ⟨rfl, rfl⟩ := HNo.out rfl
  go_wp2_with fail
  (try simp only [Exit.inBlock, Exit.then])
  refine bodyPost_ret (zkg rfl _ _ _) rfl ?_
  exact ⟨_, _, rfl, zbt _ _ _ _, zbt _ _ _ _, G1.out⟩
 ·
  go_wp2_with fail
  refine (HF2.out w1 G1.out).mono ?_
  rintro e w2 ⟨rfl, g2⟩
  have G2 := Lib.hid (zad G1.out g2)
  have N0 := Lib.hid (zab g2 M0.out)
  have N1 := Lib.hid (zab g2 M1.out)
  have N2 := Lib.hid (zab g2 M2.out)
  clear g2 z1 y2
  cases f2
  ·
   obtain ⟨rfl, rfl⟩ := HNo.out rfl
   go_wp2_with fail
   (try simp only [Exit.inBlock, Exit.then])
   refine bodyPost_ret (zkg rfl _ _ _) rfl ?_
   exact ⟨_, _, rfl, zbt _ _ _ _, zbt _ _ _ _, G2.out⟩
  ·
   have S1 := Lib.hid (HS1.out (by simp) (by simp))
   have S2 := Lib.hid (HS2.out (by simp) (by simp))
   clear HS1 HS2 HNo
   have L0 := fun x : Wd w2.drew => zb8 (za2 N0.out).2.1 (by decide) x
   have L1 := fun x : Wd w2.drew => zb8 (zbn N1.out).2.2.1 (by decide) x
   have L2 := fun x : Wd w2.drew => zb8 (zbn N2.out).2.2.1 (by decide) x
   go_wp2_with fail
   refine za4 [4, 5, 10, 11] (by kernel_rfl) (by kernel_rfl) (by kernel_rfl) ?_
   repeat (refine zae rfl rfl _ zag ?_; (first | go_big_quiet_step (fail) | quiet_step (fail)); refine wpQuiet_nil ?_)
   refine zau rfl rfl rfl zjc #[.agg (vo ⟨⟨q, m, cq⟩, was.out⟩), .agg (vo ⟨⟨q', m', cq'⟩, is.out⟩), .slice r k cr] rfl ?_
   refine (z2k _ _ _ _ _ _).mono ?_
   rintro e v1 ⟨rfl, hv1⟩
   have g1 : Below w2.drew.heap.size w2.drew v1 := (zfw w2.drew _ _ _ _ _ _ v1 hv1).1
   have T1 : Hid (Below w2.heap.size w2 v1) := zad (zap (Below.refl _ _) 1) g1
   have HV := Lib.hid hv1
   refine ⟨_, rfl, g1, ?_⟩
   simp only [Act.put, List.setIfInBounds_toArray, List.set_cons_zero, List.set_cons_succ]
   clear g1 hv1
   refine zau rfl rfl rfl zmu #[.agg (tr ⟨⟨p, n, cp⟩⟩), .func (.func 148) #[] #[.pointer (some ⟨w2.drew.heap.size + 1, 0, none⟩), .pointer (some ⟨w2.drew.heap.size, 0, none⟩), .pointer (some ⟨w2.drew.heap.size + 1 + 1, 0, none⟩)]] rfl ?_
   refine (S1.out _ (zad G2.out (zap (Below.refl _ _) 1)) v1 HV.out).mono ?_
   rintro e v2 ⟨u1, rfl, ho1, g⟩
   have T2 : Hid (Below w2.heap.size w2 v2) := zad T1.out g
   have O1 := Lib.hid (zak ho1)
   refine ⟨_, rfl, g, ?_⟩
   simp only [Act.put, List.setIfInBounds_toArray, List.set_cons_zero, List.set_cons_succ]
   clear g ho1 HV
   repeat (refine zae rfl rfl _ zag ?_; (first | go_big_quiet_step (fail) | quiet_step (fail)); refine wpQuiet_nil ?_)
   refine zau rfl rfl rfl zjc #[.agg (vo ⟨⟨q', m', cq'⟩, is.out⟩), .agg (vo ⟨⟨q, m, cq⟩, was.out⟩), .slice r k cr] rfl ?_
   refine (z2k _ _ _ _ _ _).mono ?_
   rintro e v3 ⟨rfl, hv3⟩
   have g3 : Below v2.heap.size v2 v3 := (zfw v2 _ _ _ _ _ _ v3 hv3).1
   have T3 : Hid (Below w2.heap.size w2 v3) := zad T2.out g3
   have O2 := Lib.hid (zac g3 O1.out)
   have HV := Lib.hid hv3
   refine ⟨_, rfl, g3, ?_⟩
   simp only [Act.put, List.setIfInBounds_toArray, List.set_cons_zero, List.set_cons_succ]
   clear g3 hv3
   refine zau rfl rfl rfl zmu #[.agg (tr ⟨⟨p, n, cp⟩⟩), .func (.func 148) #[] #[.pointer (some ⟨v2.heap.size + 1, 0, none⟩), .pointer (some ⟨v2.heap.size, 0, none⟩), .pointer (some ⟨v2.heap.size + 1 + 1, 0, none⟩)]] rfl ?_
   refine (S2.out _ (zad G2.out T2.out) v3 HV.out).mono ?_
   rintro e v4 ⟨u2, rfl, ho2, g⟩
   have T4 : Hid (Below w2.heap.size w2 v4) := zad T3.out g
   have O3 := Lib.hid (zak ho2)
   have O4 := Lib.hid (zac g O2.out)
   refine ⟨_, rfl, g, ?_⟩
   simp only [Act.put, List.setIfInBounds_toArray, List.set_cons_zero, List.set_cons_succ]
   clear g ho2
   repeat (refine zae rfl rfl _ zag ?_; (first | go_big_quiet_step (fail) | quiet_step (fail)); refine wpQuiet_nil ?_)
   refine zbx ?_
   clear L0 L1 L2
   go_wp2_with fail
   (try simp only [Exit.inBlock, Exit.then])
   refine bodyPost_ret (zkg rfl _ _ _) rfl ?_
   exact ⟨_, _, rfl, O4.out, O3.out, zad G2.out T4.out⟩
theorem ydv (s t t' : SlV) (u : Value) (l : List Nd) (was is : Vt) (bal : List UInt64) (w : World) (h : SlE Ene w (sv s) l) (h1 : SlE Elt w (sv t) was.l) (h1' : SlE Elt w (sv t') is.l) (h2 : SlE Enum w u bal) :
  Calls Tryz.prog 95 #[.agg (tr ⟨s⟩), .agg (vo ⟨t, was.out⟩), .agg (vo ⟨t', is.out⟩), u] w (ysc (zix l was is bal) (zez l was is bal) (ofB l was is bal) w) := by
 obtain ⟨p, n, cp⟩ := s
 obtain ⟨q, m, cq⟩ := t
 obtain ⟨q', m', cq'⟩ := t'
 have k2 := h2
 obtain ⟨r, cr, rfl, _⟩ := zaj h2
 exact ygf p q q' r n cp m cq m' cq' _ cr l was is bal w h h1 h1' k2
def yr2 (v : Vt) (k n : Nat) (s : SlV) (w : World) (e : Ending) (w' : World) : Prop := ∃ s' : SlV, e = .returned (.tuple #[.agg (vo ⟨s', v.out⟩), .int .i64 (k : Int), .int .i64 (n : Int)]) ∧ SlE Elt w' (sv s') v.l ∧ Below w.heap.size w w' ∧ ∀ b, (sv s').ownBlock = some b → (sv s).ownBlock = some b ∨ w.heap.size ≤ b
structure Pw (w W : World) (s : SlV) (v : Vt) (r : Rt) : Prop where
 a : Vw w W w.heap.size s v
 u : W.heap[w.heap.size + 1]? = some (.cells (rc r) 23 (0, 0))
 r : W.heap[w.heap.size + 2]? = some (.cells (vo zvo) 32 (0, 0))
theorem Pw.kp {w W W' : World} {s : SlV} {v : Vt} {r : Rt} (h : Pw w W s v r) (g : Below W.heap.size W W') : Pw w W' s v r := ⟨h.a.keep g, zab g h.u, zab g h.r⟩
theorem yuz {w W : World} {s : SlV} {v : Vt} {r : Rt} (hW : W = ((w.alloc (.cells (vo ⟨s, v.out⟩) 32)).alloc (.cells (rc r) 23)).alloc (.cells (vo zvo) 32)) (h : SlE Elt w (sv s) v.l) : Pw w W s v r ∧ W.heap.size = w.heap.size + 3 := by
 obtain ⟨g, m, n, o, z⟩ := zfw w _ _ _ _ _ _ W hW
 exact ⟨⟨⟨m, zac g h, g⟩, n, o⟩, z⟩
open Go.RowKit
theorem yuj {j : Nat} (hj : j < 64) {out : UInt64} (h : hasB out j = false) : bits .or .u64 (out.toNat : Int) (bitN (j : Int) : Int) = ((out + bitU j).toNat : Int) := by
 have h1 : bitN (j : Int) = (bitU j).toNat := by
  unfold bitN bitU
  rw [if_pos ⟨by omega, by omega⟩, Int.toNat_natCast, UInt64.toNat_ofNat', Nat.mod_eq_of_lt (Nat.pow_lt_pow_right (by decide) hj)]
 rw [h1, bits_or_u64_nat _ _ out.toNat_lt (bitU j).toNat_lt, ycn hj h, UInt64.toNat_or]
theorem z6r {α : Type} {E : Lie α} {w : World} {base g : Nat} {v : Value} {l : List α} {c : Array Value} {t : TypeId} {fr : Nat × Nat} (h : OwnE E w base v l) (hg : w.heap[g]? = some (.cells c t fr)) (ht : t ≠ E.t) : v.ownBlock ≠ some g := by
 intro e
 rcases h.2 with ⟨rfl, _⟩ | ⟨g', cap, cur, rfl, _, hg', _⟩
 ·
  cases e
 ·
  have : g' = g := Option.some.inj e
  subst this
  rw [hg] at hg'
  injection hg' with hg'
  injection hg' with _ e2
  exact ht e2
theorem yai {α : Type} {E : Lie α} {w w' : World} {base : Nat} {v : Value} {l : List α} (h : OwnE E w base v l) (hh : ∀ b, v.ownBlock = some b → w'.heap[b]? = w.heap[b]?) : OwnE E w' base v l := by
 refine ⟨h.1, ?_⟩
 rcases h.2 with h2 | ⟨g, cap, cur, rfl, hb, hg, hr⟩
 ·
  exact .inl h2
 ·
  exact .inr ⟨g, cap, cur, rfl, hb, (hh g rfl).trans hg, hr⟩
structure Ow (w W : World) (R O : Nat) (s : SlV) (x : Vt) : Prop where
 g : Below w.heap.size w W
 r : W.heap[R]? = some (.cells (vo zvo) 32 (0, 0))
 o : W.heap[O]? = some (.cells (vo ⟨s, x.out⟩) 32 (0, 0))
 own : OwnE Elt W (R + 1) (sv s) x.l
 lo : R < O
 lr : w.heap.size ≤ R
section
variable {w W W' : World} {R O : Nat} {s : SlV} {x : Vt}
theorem Ow.keep (h : Ow w W R O s x) (g : Below W.heap.size W W') : Ow w W' R O s x := ⟨zad h.g g, zab g h.r, zab g h.o, zah g h.own, h.lo, h.lr⟩
theorem zzn : 32 ≠ Elt.t := by decide
theorem Ow.elem {g n c : Nat} (h : Ow w W R O ⟨some ⟨g, 0, none⟩, n, c⟩ x) (hn : x.l.length = n) {j : Nat} (hj : j < n) (y : Lt) : Ow w (stA W (.pointer (some ⟨g, j * 34, none⟩)) (.agg (lt y))) R O ⟨some ⟨g, 0, none⟩, n, c⟩ ⟨x.l.set j y, x.out⟩ := by
 have hg : R + 1 ≤ g := (h.own.lt g rfl).1
 have hO : O ≠ g := fun e => z6r h.own h.o zzn (by rw [e]; rfl)
 exact ⟨zav h.g (by have := h.lr; omega), (zc0 (by omega)).trans h.r, (zc0 hO).trans h.o, zxi h.own hn hj y (zxy y), h.lo, h.lr⟩
theorem Ow.bit (h : Ow w W R O s x) (y : UInt64) : Ow w (W.setCell ⟨O, 1, none⟩ (.int .u64 (y.toNat : Int))) R O s ⟨x.l, y⟩ := by
 have hlo := h.lo
 have hlr := h.lr
 refine ⟨h.g.setCell (p := ⟨O, 1, none⟩) (show w.heap.size ≤ O by omega) _, ?_, ?_, ?_, h.lo, h.lr⟩
 ·
  rw [Below.heap_setCell _ _ _ _ (show R ≠ O by omega)]; exact h.r
 ·
  have := zaq h.o 1 (.int .u64 (y.toNat : Int))
  rwa [z4x] at this
 ·
  exact yai h.own fun b hb => Below.heap_setCell _ _ _ _ (fun e => z6r h.own h.o zzn (by rw [hb, e]))
theorem Ow.wr {g n c : Nat} (h : Ow w W R O ⟨some ⟨g, 0, none⟩, n, c⟩ x) (hn : x.l.length = n) {j : Nat} (hj : j < n) : wrA W (.pointer (some ⟨g, j * 34, none⟩)) 34 = true := by
 have := zsa h.own hn hj
 rwa [Nat.zero_add] at this
theorem Ow.post (h : Ow w W R O s x) {V : Vt} {K N : Nat} {s0 : SlV} {k n : Int} (e : V = x ∧ K = k ∧ N = n) (hk : (.int .i64 k : Value) = .int .i64 k) (hn : (.int .i64 n : Value) = .int .i64 n) : yr2 V K N s0 w (.returned (.tuple #[.agg (vo ⟨s, x.out⟩), .int .i64 k, .int .i64 n])) (stA W (.pointer (some ⟨R, 0, none⟩)) (.agg (vo ⟨s, x.out⟩))) := by
 obtain ⟨rfl, rfl, rfl⟩ := e
 refine ⟨s, rfl, zak (zd7 h.own (Nat.lt_succ_self _)), zav h.g h.lr, fun b hb => .inr ?_⟩
 have := (h.own.lt b hb).1
 have := h.lr
 omega
theorem yot {p : Nat} {W1 : World} (g : Below w.heap.size w W) (hr : W.heap[R]? = some (.cells (vo zvo) 32 (0, 0))) (hR : W.heap.size = R + 1) (hlr : w.heap.size ≤ R) (ho : OwnE Elt W1 W.heap.size (sv s) x.l) (h1 : Below W.heap.size W W1) (hW : W' = W1.alloc (.cells (vo ⟨s, x.out⟩) 32)) (hp : p = W1.heap.size) : Ow w W' R p s x := by
 subst hW hp
 have hs := h1.size
 exact ⟨zad (zad g h1) below1, zab (zad h1 below1) hr, heap_alloc_last W1 _, zah below1 (by rw [← hR]; exact ho), by omega, hlr⟩
end
theorem yh6 (p : Option Addr) (n cp : Nat) (v : Vt) (i : Int) (r : Rt) (ep : UInt64) (w : World) (h : SlE Elt w (.slice p n cp) v.l) (hl : v.l.length = n) (hn : n ≤ 1000) :
  Calls Tryz.prog 122 #[.agg (vo ⟨⟨p, n, cp⟩, v.out⟩), .int .i64 i, .agg (rc r), .int .u64 (ep.toNat : Int)] w (yr2 (putV v i r ep) (zui v i r ep) (zuw v i) ⟨p, n, cp⟩ w) := by
 obtain ⟨W0, hW0⟩ : ∃ W0, W0 = ((w.alloc (.cells (vo ⟨⟨p, n, cp⟩, v.out⟩) 32)).alloc (.cells (rc r) 23)).alloc (.cells (vo zvo) 32) := ⟨_, rfl⟩
 obtain ⟨p0, hz⟩ := yuz (s := ⟨p, n, cp⟩) hW0 h
 have HCp := Lib.hid (zu8 ⟨p, n, cp⟩ v W0 p0.a.s (by omega))
 have HM := Lib.hid (fun W (hP : Pw w W ⟨p, n, cp⟩ v r) => z4n ⟨p, n, cp⟩ v W hP.a.s)
 have P := Lib.hid p0
 have HZ : Hid (W0.heap.size = w.heap.size + 2 + 1) := hz
 have HW := Lib.hid hW0
 have HL := Lib.hid hl
 have HN := Lib.hid hn
 obtain ⟨V, hV⟩ : ∃ V, V = putV v i r ep := ⟨_, rfl⟩
 obtain ⟨k, hk⟩ : ∃ k, k = zui v i r ep := ⟨_, rfl⟩
 obtain ⟨e, he⟩ : ∃ e, e = zuw v i := ⟨_, rfl⟩
 rw [← hV, ← hk, ← he]
 have HF := Lib.hid (show V = _ ∧ k = _ ∧ e = _ from ⟨hV, hk, he⟩)
 obtain ⟨may, hmay⟩ : ∃ b, b = mayV v := ⟨_, rfl⟩
 have HB := Lib.hid hmay
 rw [← hmay] at HM
 have H8 : Hid (may = true → n ≤ 8) := fun e => by rw [← HL.out]; exact (zct.1 (HB.out.symm.trans e)).2.1
 have z1 := p0.a.z1
 clear p0 hz hW0 h hl hn hV hk he hmay
 go_enter Tryz.func122, Tryz.ntmps122
 go_upto_region 1 with fail
 rw [← HW.out]
 go_wp2_with fail
 refine HCp.out.mono ?_
 rintro e1 w1 ⟨s2, rfl, ho, g⟩
 go_upto_region 2 with fail
 obtain ⟨w2, hw2⟩ : ∃ w2, w2 = w1.alloc (.cells (vo ⟨s2, v.out⟩) 32) := ⟨_, rfl⟩
 rw [← hw2]
 have hp1 := P.out
 have Q : Hid (Ow w w2 (w.heap.size + 2) w1.heap.size s2 v) := yot hp1.a.g hp1.r HZ.out (by omega) ho g hw2 rfl
 replace P := Lib.hid (hp1.kp (W' := w2) (zad g (by rw [hw2]; exact below1)))
 obtain ⟨O, hO⟩ : ∃ O, O = w1.heap.size := ⟨_, rfl⟩
 rw [← hO] at Q ⊢
 clear hw2 hp1 ho g z1 hO HCp
 have z1 := P.out.a.z1
 go_wp2_with fail
 refine (HM.out _ P.out).mono ?_
 rintro e1 w3 ⟨rfl, g⟩
 replace P := Lib.hid (P.out.kp g)
 replace Q := Lib.hid (Q.out.keep g)
 clear g z1
 have z0 := P.out.a.z0
 rw [zat] at z0
 have z1 := P.out.a.z1
 have y1 := (zbn Q.out.o).2.2.1
 have z2 := za8 Q.out.r (zaz _)
 cases may
 ·
  have HR : Hid (V = v ∧ (k : Int) = 0 ∧ (e : Int) = 1) := by
   show _ ∧ _ ∧ _
   obtain ⟨e1, e2, e3⟩ := HF.out
   unfold putV at e1
   unfold zui at e2
   unfold zuw at e3
   rw [← HB.out, if_neg (fun h => by cases h.1)] at e1 e2
   rw [← HB.out, if_neg Bool.false_ne_true] at e3
   exact ⟨e1, by omega, by omega⟩
  go_wp2_with fail
  exact bodyPost_ret (zdv Tryz.isAgg32 Tryz.sizeOf32 _ 8 9 10 rfl _ _ _ _ _ _ rfl rfl rfl (zaf (zby Q.out.r (by rw [zaz, zaz])) (zaz _))) rfl (Q.out.post HR.out rfl rfl)
 ·
  by_cases hin : 0 ≤ i ∧ i < n
  ·
   obtain ⟨j, rfl⟩ : ∃ j : Nat, i = j := ⟨i.toNat, by omega⟩
   have hlt : j < n := by omega
   have hj8 : j < 64 := by have := H8.out rfl; omega
   have hinV : inV v (j : Int) = true := decide_eq_true (by rw [HL.out]; exact hin)
   have HE : Hid (V = zqk v j r ep ∧ k = zmg v j r ep ∧ e = 0) := by
    show _ ∧ _ ∧ _
    obtain ⟨e1, e2, e3⟩ := HF.out
    unfold putV at e1
    unfold zui at e2
    unfold zuw at e3
    rw [← HB.out, if_pos ⟨rfl, hinV⟩, Int.toNat_natCast] at e1 e2
    rw [← HB.out, if_pos rfl, if_pos hinV] at e3
    exact ⟨e1, e2, e3⟩
   have HLT := Lib.hid hlt
   have H64 := Lib.hid hj8
   have i0 : (0 : Int) ≤ (j : Int) := by omega
   have i1 : (j : Int) < (n : Int) := by omega
   have d0 : decide ((j : Int) < 0) = false := decide_eq_false (by omega)
   have d1 : decide ((n : Int) ≤ (j : Int)) = false := decide_eq_false (by omega)
   have d1' : decide (n ≤ j) = false := decide_eq_false (by omega)
   obtain ⟨b, hb⟩ : ∃ b, b = hasB v.out j := ⟨_, rfl⟩
   have HO := Lib.hid (fun W => yif ⟨p, n, cp⟩ v.out hj8 W)
   rw [← hb] at HO
   have HBb := Lib.hid hb
   clear hinV hin hlt hj8 hb
   go_wp2_with fail
   refine (HO.out _).mono ?_
   rintro e1 w4 ⟨rfl, g⟩
   replace P := Lib.hid (P.out.kp g)
   replace Q := Lib.hid (Q.out.keep g)
   clear g z0 z1 z2 y1
   have z2 := za8 Q.out.r (zaz _)
   have y1 := (zbn Q.out.o).2.2.1
   cases b
   ·
    go_upto_region 8 with fail
    obtain ⟨b1, o1, rfl, _, q1⟩ := zk5 P.out.a.s (by rw [HL.out]; have := HLT.out; omega)
    have e0 := zjp q1 (i := j) (by rw [HL.out]; exact HLT.out)
    have z0 := P.out.a.z0
    rw [zat] at z0
    have La := fun q : Wd w4.drew => za3 z0 q
    have Lb := fun q : Wd w4.drew => zb8 e0 (by decide) q
    have Lc := fun q : Wd w4.drew => zb8 (zaf P.out.u (zar _)) (by decide) q
    have HFt := Lib.hid (ylj (i := j) (r := r) (ep := ep) HBb.out.symm)
    obtain ⟨x, hx⟩ : ∃ x, x = lat v.l j := ⟨_, rfl⟩
    rw [← hx] at Lb HFt
    have HFC := Lib.hid (fun W => yml x r ep W)
    obtain ⟨f, hf⟩ : ∃ f, f = z46 x r ep := ⟨_, rfl⟩
    rw [← hf] at HFt HFC
    have Hf3 : Hid (f = 0 ∨ f = 1 ∨ f = 2) := by
     show _ ∨ _ ∨ _
     rw [hf]; unfold z46
     split
     ·
      exact .inl rfl
     ·
      split
      ·
       exact .inr (.inr rfl)
      ·
       exact .inr (.inl rfl)
    clear q1 e0 hx hf z0 z2 y1
    refine za4 [7] (by kernel_rfl) (by kernel_rfl) (by kernel_rfl) ?_
    repeat (refine zae rfl rfl _ zag ?_; (first | go_big_quiet_step (fail) | quiet_step (fail)); refine wpQuiet_nil ?_)
    refine zau rfl rfl rfl zth #[.agg (lt x), .agg (rc r), .int .u64 (ep.toNat : Int)] rfl ?_
    refine (HFC.out _).mono ?_
    rintro e1 u ⟨rfl, g⟩
    refine ⟨_, rfl, g, ?_⟩
    simp only [Act.put, List.setIfInBounds_toArray, List.set_cons_zero, List.set_cons_succ]
    have GU : Below w4.heap.size w4 u := zad (zap (Below.refl _ _) 1) g
    replace P := Lib.hid (P.out.kp GU)
    replace Q := Lib.hid (Q.out.keep GU)
    clear g GU La Lb Lc
    repeat (refine zae rfl rfl _ zag ?_; (first | go_big_quiet_step (fail) | quiet_step (fail)); refine wpQuiet_nil ?_)
    refine zbx ?_
    obtain ⟨g2, c2, rfl⟩ : ∃ g2 c2 : Nat, s2 = ⟨some ⟨g2, 0, none⟩, n, c2⟩ := by
     obtain ⟨g2, c2, e, _⟩ := zzv Q.out.own HL.out (by have := HLT.out; omega)
     obtain ⟨sp, sn, sc⟩ := s2
     rw [zat] at e
     injection e with e1 e2 e3
     exact ⟨g2, c2, by rw [e1, e2, e3]⟩
    have yw := Q.out.wr HL.out HLT.out
    have y0 := (zbn Q.out.o).1
    dsimp only at y0
    rw [zat] at y0
    rcases Hf3.out with rfl | rfl | rfl
    ·
     have HR : Hid (V = v ∧ (k : Int) = 0 ∧ (e : Int) = 0) := by
      show _ ∧ _ ∧ _
      obtain ⟨e1, e2, e3⟩ := HE.out
      rw [zia HFt.out] at e1
      rw [HFt.out] at e2
      exact ⟨e1, by omega, by omega⟩
     have y1 := (zbn Q.out.o).2.2.1
     have z2 := za8 Q.out.r (zaz _)
     go_wp2_with fail
     exact bodyPost_ret (zdv Tryz.isAgg32 Tryz.sizeOf32 _ 8 9 10 rfl _ _ _ _ _ _ rfl rfl rfl (zaf (zby Q.out.r (by rw [zaz, zaz])) (zaz _))) rfl (Q.out.post HR.out rfl rfl)
    ·
     have HR : Hid (V = ⟨v.l.set j ⟨true, r, ep⟩, v.out⟩ ∧ (k : Int) = 1 ∧ (e : Int) = 0) := by
      show _ ∧ _ ∧ _
      obtain ⟨e1, e2, e3⟩ := HE.out
      rw [zmq HFt.out] at e1
      rw [HFt.out] at e2
      exact ⟨e1, by omega, by omega⟩
     have zu := zaf P.out.u (zar _)
     go_upto_region 15 with fail
     obtain ⟨w5, hw5⟩ : ∃ w5, w5 = stA u (.pointer (some ⟨g2, j * 34, none⟩)) (.agg (lt ⟨true, r, ep⟩)) := ⟨_, rfl⟩
     rw [← hw5]
     replace Q : Hid (Ow w w5 (w.heap.size + 2) O ⟨some ⟨g2, 0, none⟩, n, c2⟩ ⟨v.l.set j ⟨true, r, ep⟩, v.out⟩) := by rw [hw5]; exact Q.out.elem HL.out HLT.out _
     clear hw5 yw y0 zu
     have y1 := (zbn Q.out.o).2.2.1
     have z2 := za8 Q.out.r (zaz _)
     go_wp2_with fail
     exact bodyPost_ret (zdv Tryz.isAgg32 Tryz.sizeOf32 _ 8 9 10 rfl _ _ _ _ _ _ rfl rfl rfl (zaf (zby Q.out.r (by rw [zaz, zaz])) (zaz _))) rfl (Q.out.post HR.out rfl rfl)
    ·
     have HR : Hid (V = ⟨v.l.set j zlt, v.out + bitU j⟩ ∧ (k : Int) = 2 ∧ (e : Int) = 0) := by
      show _ ∧ _ ∧ _
      obtain ⟨e1, e2, e3⟩ := HE.out
      rw [znb HFt.out] at e1
      rw [HFt.out] at e2
      exact ⟨e1, by omega, by omega⟩
     go_upto_region 14 with fail
     obtain ⟨w5, hw5⟩ : ∃ w5, w5 = stA u (.pointer (some ⟨g2, j * 34, none⟩)) (.agg (lt zlt)) := ⟨_, rfl⟩
     rw [← hw5]
     replace Q : Hid (Ow w w5 (w.heap.size + 2) O ⟨some ⟨g2, 0, none⟩, n, c2⟩ ⟨v.l.set j zlt, v.out⟩) := by rw [hw5]; exact Q.out.elem HL.out HLT.out _
     have hwB : O ≤ w5.heap.size := Nat.le_of_lt (Array.getElem?_eq_some_iff.1 Q.out.o).1
     have HBt := Lib.hid (fun W => zna (j : Int) W)
     have hsum := yuj H64.out HBb.out.symm
     have Q0 := za3 (zbn Q.out.o).2.1
     dsimp only at Q0
     obtain ⟨M, hM⟩ : ∃ M, M = (v.out.toNat : Int) := ⟨_, rfl⟩
     obtain ⟨Bn, hBn⟩ : ∃ Bn, Bn = (bitN (j : Int) : Int) := ⟨_, rfl⟩
     rw [← hM] at Q0 hsum
     rw [← hBn] at HBt hsum
     clear hw5 yw y0 hM hBn
     refine zdj O [1] [3, 6] (by kernel_rfl) (by kernel_rfl) (by kernel_rfl) ?_
     refine zbq rfl rfl rfl hwB ?_
     (first | go_big_quiet_step (fail) | quiet_step (fail)); refine wpQuiet_nil ?_
     refine zfc rfl rfl rfl hwB ?_
     (first | go_big_quiet_step (fail) | quiet_step (fail)); refine wpQuiet_nil ?_
     refine zbq rfl rfl rfl hwB ?_
     (first | go_big_quiet_step (fail) | quiet_step (fail)); refine wpQuiet_nil ?_
     refine zhy rfl rfl rfl zeu #[.int .i64 (j : Int)] rfl ?_
     refine (HBt.out _).mono ?_
     rintro e1 u2 ⟨rfl, gu⟩
     refine ⟨_, rfl, gu, ?_⟩
     simp only [Act.put, List.setIfInBounds_toArray, List.set_cons_zero, List.set_cons_succ]
     have GU : Below w5.heap.size w5 u2 := zad (zap (Below.refl _ _) 1) gu
     replace Q := Lib.hid (Q.out.keep GU)
     clear gu GU
     repeat (refine zbq rfl rfl rfl hwB ?_; (first | go_big_quiet_step (fail) | quiet_step (fail)); refine wpQuiet_nil ?_)
     obtain ⟨W6, hW6⟩ : ∃ W6, W6 = u2.setCell ⟨O, 1, none⟩ (.int .u64 ((v.out + bitU j).toNat : Int)) := ⟨_, rfl⟩
     have f0 := frozen_of_row u2 O 1 _ _ Q.out.o
     have f2 := (zbn Q.out.o).2.1
     dsimp only at f2
     replace Q : Hid (Ow w W6 (w.heap.size + 2) O ⟨some ⟨g2, 0, none⟩, n, c2⟩ ⟨v.l.set j zlt, v.out + bitU j⟩) := by rw [hW6]; exact Q.out.bit _
     have HW6 := Lib.hid hW6
     clear hW6
     refine zid rfl rfl W6 (by rw [HW6.out]; go_simp) (zcr (by kernel_rfl) (by rw [HW6.out]; exact (Below.refl _ _).setCell (p := ⟨O, 1, none⟩) (Nat.le_refl _) _)) ?_
     simp only [Act.put]
     refine zk4 ?_
     clear Q0 hwB f0 f2 hsum
     have y1 := (zbn Q.out.o).2.2.1
     have z2 := za8 Q.out.r (zaz _)
     go_wp2_with fail
     exact bodyPost_ret (zdv Tryz.isAgg32 Tryz.sizeOf32 _ 8 9 10 rfl _ _ _ _ _ _ rfl rfl rfl (zaf (zby Q.out.r (by rw [zaz, zaz])) (zaz _))) rfl (Q.out.post HR.out rfl rfl)
   ·
    have HR : Hid (V = v ∧ (k : Int) = 0 ∧ (e : Int) = 0) := by
     show _ ∧ _ ∧ _
     have hf : zmg v j r ep = 0 := by unfold zmg; rw [← HBb.out, if_pos rfl]
     obtain ⟨e1, e2, e3⟩ := HE.out
     rw [zia hf] at e1
     rw [hf] at e2
     exact ⟨e1, by omega, by omega⟩
    go_wp2_with fail
    exact bodyPost_ret (zdv Tryz.isAgg32 Tryz.sizeOf32 _ 8 9 10 rfl _ _ _ _ _ _ rfl rfl rfl (zaf (zby Q.out.r (by rw [zaz, zaz])) (zaz _))) rfl (Q.out.post HR.out rfl rfl)
  ·
   have HR : Hid (V = v ∧ (k : Int) = 0 ∧ (e : Int) = 10) := by
    show _ ∧ _ ∧ _
    have hinV : inV v i = false := decide_eq_false (by rw [HL.out]; exact hin)
    obtain ⟨e1, e2, e3⟩ := HF.out
    unfold putV at e1
    unfold zui at e2
    unfold zuw at e3
    rw [hinV, if_neg (fun h => by cases h.2)] at e1 e2
    rw [← HB.out, if_pos rfl, hinV, if_neg Bool.false_ne_true] at e3
    exact ⟨e1, by omega, by omega⟩
   by_cases h0 : i < 0
   ·
    have d0 : decide (i < 0) = true := decide_eq_true h0
    clear h0 hin
    go_wp2_with fail
    exact bodyPost_ret (zdv Tryz.isAgg32 Tryz.sizeOf32 _ 8 9 10 rfl _ _ _ _ _ _ rfl rfl rfl (zaf (zby Q.out.r (by rw [zaz, zaz])) (zaz _))) rfl (Q.out.post HR.out rfl rfl)
   ·
    have d0 : decide (i < 0) = false := decide_eq_false h0
    have d1 : decide ((n : Int) ≤ i) = true := decide_eq_true (by omega)
    clear h0 hin
    go_wp2_with fail
    exact bodyPost_ret (zdv Tryz.isAgg32 Tryz.sizeOf32 _ 8 9 10 rfl _ _ _ _ _ _ rfl rfl rfl (zaf (zby Q.out.r (by rw [zaz, zaz])) (zaz _))) rfl (Q.out.post HR.out rfl rfl)
theorem yj9 (s : SlV) (v : Vt) (i : Int) (r : Rt) (ep : UInt64) (w : World) (h : SlE Elt w (sv s) v.l) (hn : v.l.length ≤ 1000) :
  Calls Tryz.prog 122 #[.agg (vo ⟨s, v.out⟩), .int .i64 i, .agg (rc r), .int .u64 (ep.toNat : Int)] w (yr2 (putV v i r ep) (zui v i r ep) (zuw v i) s w) := by
 have hl := ziu h
 obtain ⟨p, n, cp⟩ := s
 dsimp only at hl
 exact yh6 p n cp v i r ep w h hl (by omega)
theorem ypk (s : SlV) (v : Vt) (i : Int) (r : Rt) (ep : UInt64) (w : World) (h : SlE Elt w (sv s) v.l) (hn : v.l.length ≤ 1000) :
  Calls Tryz.prog 122 #[.agg (vo ⟨s, v.out⟩), .int .i64 i, .agg (rc r), .int .u64 (ep.toNat : Int)] w (VoEr (putV v i r ep) (zui v i r ep) (zuw v i) w) :=
 (yj9 s v i r ep w h hn).mono fun _ _ ⟨s', e, h1, h2, _⟩ => ⟨s', e, h1, h2⟩
def zox (a b : Nat) : Bool := decide (a + b < 18446744073709551616)
def addV (a b : Nat) : Nat := if a + b < 18446744073709551616 then a + b else 0
def zf8 (a b : Nat) : Bool := decide (b ≤ a)
def ztt (a b : Nat) : Nat := if b ≤ a then a - b else 0
def oneV (a b c : Nat) : Nat := if zht a b c = true then a + b - c else 0
def zuo (l : List Nd) (f : Nat → Nat) (m i : Nat) : Nat := f i + sumF (fun c => if m ≤ c ∧ (nd l c).parent = (i : Int) then subT l f c else 0) l.length
theorem z32 {b : List UInt64} {k j x : Nat} (hk : k < b.length) (hx : x < 18446744073709551616) : fn (b.set k (UInt64.ofNat x)) j = if j = k then x else fn b j := by
 unfold fn
 rw [List.getD_eq_getElem?_getD, List.getElem?_set]
 by_cases h : k = j
 ·
  subst h
  rw [if_pos rfl, if_pos hk, if_pos rfl]
  show (UInt64.ofNat x).toNat = x
  rw [UInt64.toNat_ofNat', Nat.mod_eq_of_lt hx]
 ·
  rw [if_neg h, if_neg (fun e => h e.symm), List.getD_eq_getElem?_getD]
section
variable {l : List Nd} {f : Nat → Nat}
theorem yae (i : Nat) : zuo l f l.length i = f i := by
 unfold zuo
 rw [zbo (g := fun _ => 0) _ (fun k hk => by rw [if_neg]; rintro ⟨h, _⟩; omega), zfu, Nat.add_zero]
theorem zrw (h : MayT l) {i m : Nat} (hi : i < l.length) (hm : m ≤ i + 1) : zuo l f m i = subT l f i := by
 rw [z76 h f hi]
 unfold zuo
 congr 1
 refine zbo _ fun c hc => ?_
 by_cases e : (nd l c).parent = (i : Int)
 ·
  rw [if_pos e, if_pos]
  refine ⟨?_, e⟩
  by_cases h0 : c = 0
  ·
   subst h0; rw [h.first] at e; omega
  ·
   obtain ⟨h1, h2, _⟩ := h.par (Nat.pos_of_ne_zero h0) hc
   rw [h1] at e
   omega
 ·
  rw [if_neg e, if_neg (fun x => e x.2)]
theorem yri (h : MayT l) {i : Nat} (m : Nat) (hi : i < l.length) : zuo l f m i ≤ subT l f i := by
 rw [z76 h f hi]
 unfold zuo
 refine Nat.add_le_add_left (z30 _ fun c _ => ?_) _
 by_cases e : (nd l c).parent = (i : Int)
 ·
  rw [if_pos e]; split <;> omega
 ·
  rw [if_neg (fun x => e x.2)]; omega
theorem zs0 {m : Nat} (hm : m < l.length) (i : Nat) : zuo l f m i = zuo l f (m + 1) i + (if (nd l m).parent = (i : Int) then subT l f m else 0) := by
 have e1 : (if (nd l m).parent = (i : Int) then subT l f m else 0) = sumF (fun c => if c = m ∧ (nd l m).parent = (i : Int) then subT l f m else 0) l.length := by
  rw [zyf (fun c => if c = m ∧ (nd l m).parent = (i : Int) then subT l f m else 0) hm (fun k _ hk => by rw [if_neg]; rintro ⟨h, _⟩; exact hk h)]
  simp
 rw [e1]
 unfold zuo
 rw [Nat.add_assoc, ← zhh]
 congr 1
 refine zbo _ fun c _ => ?_
 by_cases hc : c = m
 ·
  subst hc
  have h1 : ¬ c + 1 ≤ c := by omega
  by_cases e : (nd l c).parent = (i : Int)
  ·
   simp [e, h1]
  ·
   simp [e]
 ·
  have : (m ≤ c) = (m + 1 ≤ c) := by rw [eq_iff_iff]; omega
  simp [hc, this]
def zxv (l : List Nd) (a : List UInt64) (m : Nat) (c : List UInt64) : Prop := c.length = l.length ∧ ∀ i, i < l.length → fn c i = zuo l (fn a) m i
variable {a c : List UInt64}
theorem z5d (h : a.length = l.length) : zxv l a l.length a := ⟨h, fun i _ => (yae i).symm⟩
theorem z8x (hm : MayT l) (h : zxv l a 1 c) : zxv l a 0 c := ⟨h.1, fun i hi => by
 rw [h.2 i hi, zs0 hm.pos i, hm.first, if_neg (by omega), Nat.add_zero]⟩
theorem ybu (hm : MayT l) {m : Nat} (h0 : 0 < m) (hl : m < l.length) (h : zxv l a (m + 1) c) (hf : fn c (up l m) + fn c m < 18446744073709551616) : zxv l a m (c.set (up l m) (UInt64.ofNat (fn c (up l m) + fn c m))) := by
 obtain ⟨e1, e2, _⟩ := hm.par h0 hl
 refine ⟨by rw [List.length_set, h.1], fun i hi => ?_⟩
 rw [z32 (by rw [h.1]; omega) hf, zs0 hl i, e1, h.2 m hl, h.2 (up l m) (by omega), zrw hm hl (Nat.le_refl _)]
 by_cases e : i = up l m
 ·
  rw [if_pos e, if_pos (by rw [e]), e]
 ·
  rw [if_neg e, if_neg (by omega), Nat.add_zero, h.2 i hi]
theorem ygh (hm : MayT l) {m : Nat} (h0 : 0 < m) (hl : m < l.length) (h : zxv l a (m + 1) c) (hf : ¬ fn c (up l m) + fn c m < 18446744073709551616) : zdp l a = false := by
 obtain ⟨e1, e2, _⟩ := hm.par h0 hl
 rw [← Bool.not_eq_true]
 intro e
 have h1 := (ze4.1 e).2.2 (up l m) (by omega)
 have h2 := yri (f := fn a) hm m (show up l m < l.length by omega)
 rw [zs0 hl, e1, if_pos rfl] at h2
 rw [h.2 m hl, h.2 (up l m) (by omega), zrw hm hl (Nat.le_refl _)] at hf
 omega
theorem yfi (hm : MayT l) (ha : a.length = l.length) (h : zxv l a 0 c) : zdp l a = true ∧ c = subL l a := by
 have e : ∀ i, i < l.length → fn c i = subT l (fn a) i := fun i hi => by rw [h.2 i hi, zrw hm hi (Nat.zero_le _)]
 have ok : zdp l a = true := ze4.2 ⟨hm, ha, fun i hi => by rw [← e i hi]; exact zy4 _ _⟩
 exact ⟨ok, zu4 (by rw [h.1, zfm ok]) fun i hi => by rw [zfm ok] at hi; rw [e i hi, zey ok hi]⟩
end
theorem z61 {a b c : Nat} (h : c ≤ b) : zox a (b - c) = zht a b c ∧ addV a (b - c) = oneV a b c := by
 constructor
 ·
  unfold zox zht; congr 1; rw [eq_iff_iff]; omega
 ·
  unfold addV oneV zht
  by_cases h2 : a + (b - c) < 18446744073709551616
  ·
   rw [if_pos h2, if_pos (decide_eq_true (by omega))]; omega
  ·
   rw [if_neg h2, if_neg (by rw [decide_eq_true_iff]; omega)]
theorem z6b {a b c : Nat} (h : ¬ c ≤ b) (ha : a < 18446744073709551616) : zf8 a (c - b) = zht a b c ∧ ztt a (c - b) = oneV a b c := by
 constructor
 ·
  unfold zf8 zht; congr 1; rw [eq_iff_iff]; omega
 ·
  unfold ztt oneV zht
  by_cases h2 : c - b ≤ a
  ·
   rw [if_pos h2, if_pos (decide_eq_true (by omega))]; omega
  ·
   rw [if_neg h2, if_neg (by rw [decide_eq_true_iff]; omega)]
theorem z4y (a b c : Nat) : oneV a b c < 18446744073709551616 := by
 unfold oneV zht
 by_cases h : c ≤ a + b ∧ a + b - c < 18446744073709551616
 ·
  rw [if_pos (decide_eq_true h)]; exact h.2
 ·
  rw [if_neg (by rw [decide_eq_true_iff]; exact h)]; omega
def z8w (n : Nat) (a p q : List UInt64) (m : Nat) (c : List UInt64) : Prop := c.length = n ∧ (∀ i, m ≤ i → i < n → zht (fn a i) (fn p i) (fn q i) = true ∧ fn c i = oneV (fn a i) (fn p i) (fn q i)) ∧ ∀ i, i < m → i < n → fn c i = fn a i
section
variable {n : Nat} {a p q c : List UInt64}
theorem z3f (h : a.length = n) : z8w n a p q n a := ⟨h, fun i h1 h2 => by omega, fun _ _ _ => rfl⟩
theorem zwa {m : Nat} (hm : m < n) (h : z8w n a p q (m + 1) c) (ok : zht (fn c m) (fn p m) (fn q m) = true) : z8w n a p q m (c.set m (UInt64.ofNat (oneV (fn c m) (fn p m) (fn q m)))) := by
 have e := h.2.2 m (by omega) hm
 have hv := z4y (fn c m) (fn p m) (fn q m)
 refine ⟨by rw [List.length_set, h.1], fun i h1 h2 => ?_, fun i h1 h2 => ?_⟩
 ·
  rw [z32 (by rw [h.1]; exact hm) hv]
  by_cases e2 : i = m
  ·
   subst e2
   rw [if_pos rfl]
   rw [e] at ok ⊢
   exact ⟨ok, rfl⟩
  ·
   rw [if_neg e2]
   exact h.2.1 i (by omega) h2
 ·
  rw [z32 (by rw [h.1]; exact hm) hv, if_neg (by omega)]
  exact h.2.2 i (by omega) h2
theorem z2m {m : Nat} (hm : m < n) (h : z8w n a p q (m + 1) c) (ok : zht (fn c m) (fn p m) (fn q m) = false) : zht (fn a m) (fn p m) (fn q m) = false := by
 rw [← h.2.2 m (by omega) hm]; exact ok
end
section
variable {l : List Nd} {w pl mi c : List UInt64}
theorem ylk (hp : zdp l pl = true) (hq : zdp l mi = true) (hw : w.length = l.length) (h : ∀ i, i < l.length → zht (fn w i) (fn (subL l pl) i) (fn (subL l mi) i) = true) : ze0 l w pl mi = true :=
 zfh.2 ⟨hp, hq, hw, fun i hi => by
  have := h i hi
  rw [zey hp hi, zey hq hi] at this
  exact of_decide_eq_true this⟩
theorem yi9 (hp : zdp l pl = true) (hq : zdp l mi = true) {i : Nat} (hi : i < l.length) (h : zht (fn w i) (fn (subL l pl) i) (fn (subL l mi) i) = false) : ze0 l w pl mi = false := by
 rw [← Bool.not_eq_true]
 intro e
 have := (zfh.1 e).2.2.2 i hi
 rw [zey hp hi, zey hq hi] at h
 exact of_decide_eq_false h this
theorem ygo (hp : zdp l pl = true) (hq : zdp l mi = true) (hw : w.length = l.length) (h : z8w l.length w (subL l pl) (subL l mi) 0 c) : ze0 l w pl mi = true ∧ c = zpd l w pl mi := by
 have ok : ze0 l w pl mi = true := ylk hp hq hw fun i hi => (h.2.1 i (Nat.zero_le _) hi).1
 refine ⟨ok, zu4 (by rw [h.1, zrm ok]) fun i hi => ?_⟩
 rw [zrm ok] at hi
 obtain ⟨h1, h2⟩ := h.2.1 i (Nat.zero_le _) hi
 rw [h2, z7h ok hi]
 unfold oneV yc8
 rw [if_pos h1, zey hp hi, zey hq hi]
end
end Go.Proofs.YtmihlihlpdkdcaaGreat
