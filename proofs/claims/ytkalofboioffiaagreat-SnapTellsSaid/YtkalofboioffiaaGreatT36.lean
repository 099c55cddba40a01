import Derived.Test.YtkalofboioffiaaGreatT35
import Derived.Test.YtkalofboioffiaaGreatT31
import Derived.Laws.Externs
namespace Go.Proofs.YtkalofboioffiaaGreat
open Go.RowKit
set_option maxRecDepth 200000
set_option maxHeartbeats 64000000
theorem z7c (p q r : Option Addr) (n cp m cq k cr : Nat) (l : List Nd) (v : Vt) (bal : List UInt64) (w : World) (h : SlE Ene w (.slice p n cp) l) (h1 : SlE Elt w (.slice q m cq) v.l) (h2 : SlE Enum w (.slice r k cr) bal) (hv : v.l.length = m) (hb : bal.length = k) :
  Calls Tryz.prog 149 #[.agg (tr ⟨⟨p, n, cp⟩⟩), .agg (vo ⟨⟨q, m, cq⟩, v.out⟩), .slice r k cr] w fun e w' => e = .returned (.bool (fitB l v bal)) ∧ Below w.heap.size w w' := by
 have HA := Lib.hid (fun W (g : Below w.heap.size w W) => zfi ⟨p, n, cp⟩ l W (zad g h))
 have HV := Lib.hid (fun W (g : Below w.heap.size w W) => yhd ⟨q, m, cq⟩ v W (zad g h1))
 have HC := Lib.hid (fun W (g : Below w.heap.size w W) => zl0 (.slice r k cr) bal W (zad g h2))
 obtain ⟨a, ha⟩ : ∃ a, a = decide (MayT l) := ⟨_, rfl⟩
 obtain ⟨b, hb'⟩ : ∃ b, b = mayV v := ⟨_, rfl⟩
 obtain ⟨c, hc⟩ : ∃ c, c = mayB bal := ⟨_, rfl⟩
 obtain ⟨x, hx⟩ : ∃ x, x = ((m : Int) == (k : Int)) := ⟨_, rfl⟩
 obtain ⟨z, hz⟩ : ∃ z, z = fitB l v bal := ⟨_, rfl⟩
 have HZ : Hid (z = (a && (b && (c && x)))) := by
  show z = _
  rw [hz, ha, hb', hc, hx]
  unfold fitB
  have : decide (v.l.length = bal.length) = ((m : Int) == (k : Int)) := by rw [Bool.eq_iff_iff, decide_eq_true_iff, beq_iff_eq, hv, hb]; omega
  rw [this]
 rw [← hz]
 rw [← ha] at HA
 rw [← hb'] at HV
 rw [← hc] at HC
 have tx : ((m : Int) == (k : Int)) = x := hx.symm
 obtain ⟨W0, hW0⟩ : ∃ W0, W0 = (w.alloc (.cells (tr ⟨⟨p, n, cp⟩⟩) 24)).alloc (.cells (vo ⟨⟨q, m, cq⟩, v.out⟩) 29) := ⟨_, rfl⟩
 obtain ⟨hB, k0, k1, hz0⟩ := zc2 w _ _ _ _ W0 hW0
 have HB := Lib.hid hB
 have HW := Lib.hid hW0
 have K0 := Lib.hid k0
 have K1 := Lib.hid k1
 clear hW0 h h1 h2 hv hb hB k0 k1 hz0 ha hb' hc hx hz
 go_enter Tryz.func149, Tryz.ntmps149
 have z1 := (zai K0.out).2.1
 go_wp2_with fail
 rw [← HW.out]
 go_wp2_with fail
 refine (HA.out W0 HB.out).mono ?_
 rintro e w1 ⟨rfl, g1⟩
 have G1 := Lib.hid (zab HB.out g1)
 have N1 := Lib.hid (zac g1 K1.out)
 clear g1 z1
 have y1 := (zbo N1.out).2.2.1
 cases a
 ·
  have hX : Hid (z = false) := HZ.out
  go_wp2_with fail
  go_ret
  exact ⟨by rw [hX.out]; first | done | rfl, G1.out⟩
 ·
  go_wp2_with fail
  refine (HV.out w1 G1.out).mono ?_
  rintro e w2 ⟨rfl, g2⟩
  have G2 := Lib.hid (zab G1.out g2)
  have N2 := Lib.hid (zac g2 N1.out)
  clear g2 y1
  cases b
  ·
   have hX : Hid (z = false) := HZ.out
   go_wp2_with fail
   go_ret
   exact ⟨by rw [hX.out]; first | done | rfl, G2.out⟩
  ·
   go_wp2_with fail
   refine (HC.out w2 G2.out).mono ?_
   rintro e w3 ⟨rfl, g3⟩
   have G3 := Lib.hid (zab G2.out g3)
   have N3 := Lib.hid (zac g3 N2.out)
   clear g3
   have y0 := (zbo N3.out).1
   dsimp only at y0
   rw [za0] at y0
   cases c
   ·
    have hX : Hid (z = false) := HZ.out
    go_wp2_with fail
    go_ret
    exact ⟨by rw [hX.out]; first | done | rfl, G3.out⟩
   ·
    have hX : Hid (z = x) := HZ.out
    go_wp2_with fail
    go_ret
    exact ⟨by rw [hX.out]; first | done | rfl, G3.out⟩
theorem z7b (s t : SlV) (u : Value) (l : List Nd) (v : Vt) (bal : List UInt64) (w : World) (h : SlE Ene w (sv s) l) (h1 : SlE Elt w (sv t) v.l) (h2 : SlE Enum w u bal) :
  Calls Tryz.prog 149 #[.agg (tr ⟨s⟩), .agg (vo ⟨t, v.out⟩), u] w fun e w' => e = .returned (.bool (fitB l v bal)) ∧ Below w.heap.size w w' := by
 have hv := zg8 h1
 obtain ⟨p, n, cp⟩ := s
 obtain ⟨q, m, cq⟩ := t
 dsimp only at hv
 obtain ⟨r, cr, rfl, _⟩ := zal h2
 exact z7c p q r n cp m cq _ cr l v bal w h h1 h2 hv rfl
theorem zg7 {fn : Func} {t u v : Tmp} (h : fn.results = #[.tmp t, .tmp u, .tmp v]) (tmps : Array Value) (P : Program) (w : World) :
  (results fn tmps).run P w = .ok (.tuple #[tmps.getD t undef, tmps.getD u undef, tmps.getD v undef]) w := by
 simp [results, h]
def yh1 (a b : List UInt64) (ok : Bool) (w : World) (e : Ending) (w' : World) : Prop := ∃ u v, e = .returned (.tuple #[u, v, .bool ok]) ∧ SlE Enum w' u a ∧ SlE Enum w' v b ∧ Below w.heap.size w w'
theorem yj4 {w W : World} {s : SlV} {v : Vt} (g : Below w.heap.size w W) (h : SlE Elt W (sv s) v.l) : Vw w (W.alloc (.cells (vo ⟨s, v.out⟩) 29)) W.heap.size s v := ⟨heap_alloc_last W _, zad below1 h, zab g below1⟩
theorem ydj (s t t' : SlV) (u : Value) (l : List Nd) (v o : Vt) (bal : List UInt64) (w W : World) (hW : W = ((w.alloc (.cells (vo ⟨t', o.out⟩) 29)).alloc (.cells (vo ⟨t, v.out⟩) 29)).alloc (.cells #[u] 25)) (h : SlE Ene w (sv s) l) (h1 : SlE Elt w (sv t) v.l) (h1' : SlE Elt w (sv t') o.l) (h2 : SlE Enum w u bal) (hf : fitB l v bal = true) (hf' : fitB l o bal = true) :
  Calls Tryz.prog 150 #[.agg (tr ⟨s⟩), .func (.func 176) #[] #[.pointer (some ⟨w.heap.size + 1, 0, none⟩), .pointer (some ⟨w.heap.size, 0, none⟩), .pointer (some ⟨w.heap.size + 1 + 1, 0, none⟩)]] W fun e w' => ∃ x, e = .returned x ∧ OwnE Enum w' W.heap.size x (zcd (zsa l v o bal) l.length) ∧ Below W.heap.size W w' := by
 obtain ⟨hm, hv, hbal, e1⟩ := zd5.1 hf
 obtain ⟨_, _, _, e2⟩ := zd5.1 hf'
 have hl := zbk h
 have hvl := zg8 h1
 have hol := zg8 h1'
 obtain ⟨b1, b2, _⟩ := zb7.1 hbal
 obtain ⟨g, k0, k1, k2, hz⟩ := zf2 w _ _ _ _ _ _ W hW
 obtain ⟨p, n, cp⟩ := s
 obtain ⟨q, m, cq⟩ := t
 obtain ⟨q', m', cq'⟩ := t'
 dsimp only at hl hvl hol
 obtain ⟨r, cr, rfl, _⟩ := zal h2
 obtain rfl : m' = m := by omega
 have hbl : bal.length = m' := by omega
 rw [hbl] at h2 k2 hW
 obtain ⟨p1, o1, rfl, q1, x1⟩ := zf5 h1 (by have := (zcf.1 hv).1; omega)
 obtain ⟨p2, o2, rfl, q2, x2⟩ := zf5 h1' (by have := (zcf.1 hv).1; omega)
 obtain ⟨p3, o3, rfl, q3, x3⟩ := zcm h2 (by have := (zcf.1 hv).1; omega)
 have hs := g.size
 rw [hl]
 exact z9s (w.heap.size + 1) w.heap.size (w.heap.size + 1 + 1) n cp p1 o1 cq p2 o2 cq' p3 o3 cr m' p l v o bal W (zad g h) hm hl (by have := (zcf.1 hv).2.1; omega) hvl hol hbl (yen hbal) (by omega) (by omega) (by omega) k1 k0 k2 (zbu g x1) (zbu g x2) (zbu g x3)
theorem z4n (p q q' r : Option Addr) (n cp m cq m' cq' k cr : Nat) (l : List Nd) (was is : Vt) (bal : List UInt64) (w : World) (h : SlE Ene w (.slice p n cp) l) (h1 : SlE Elt w (.slice q m cq) was.l) (h1' : SlE Elt w (.slice q' m' cq') is.l) (h2 : SlE Enum w (.slice r k cr) bal) :
  Calls Tryz.prog 118 #[.agg (tr ⟨⟨p, n, cp⟩⟩), .agg (vo ⟨⟨q, m, cq⟩, was.out⟩), .agg (vo ⟨⟨q', m', cq'⟩, is.out⟩), .slice r k cr] w (yh1 (zo0 l was is bal) (zh1 l was is bal) (ofB l was is bal) w) := by
 have HF1 := Lib.hid (fun W (g : Below w.heap.size w W) => z7b ⟨p, n, cp⟩ ⟨q, m, cq⟩ (.slice r k cr) l was bal W (zad g h) (zad g h1) (zad g h2))
 have HF2 := Lib.hid (fun W (g : Below w.heap.size w W) => z7b ⟨p, n, cp⟩ ⟨q', m', cq'⟩ (.slice r k cr) l is bal W (zad g h) (zad g h1') (zad g h2))
 have HS1 : Hid (fitB l was bal = true → fitB l is bal = true → ∀ V, Below w.heap.size w V → ∀ W, W = ((V.alloc (.cells (vo ⟨⟨q, m, cq⟩, was.out⟩) 29)).alloc (.cells (vo ⟨⟨q', m', cq'⟩, is.out⟩) 29)).alloc (.cells #[.slice r k cr] 25) →
   Calls Tryz.prog 150 #[.agg (tr ⟨⟨p, n, cp⟩⟩), .func (.func 176) #[] #[.pointer (some ⟨V.heap.size + 1, 0, none⟩), .pointer (some ⟨V.heap.size, 0, none⟩), .pointer (some ⟨V.heap.size + 1 + 1, 0, none⟩)]] W (fun e w' => ∃ u, e = .returned u ∧ OwnE Enum w' W.heap.size u (zo0 l was is bal) ∧ Below W.heap.size W w')) := fun f1 f2 V g W hW => by
  rw [zub (z6u.2 ⟨f1, f2⟩)]
  exact ydj ⟨p, n, cp⟩ ⟨q', m', cq'⟩ ⟨q, m, cq⟩ (.slice r k cr) l is was bal V W hW (zad g h) (zad g h1') (zad g h1) (zad g h2) f2 f1
 have HS2 : Hid (fitB l was bal = true → fitB l is bal = true → ∀ V, Below w.heap.size w V → ∀ W, W = ((V.alloc (.cells (vo ⟨⟨q', m', cq'⟩, is.out⟩) 29)).alloc (.cells (vo ⟨⟨q, m, cq⟩, was.out⟩) 29)).alloc (.cells #[.slice r k cr] 25) →
   Calls Tryz.prog 150 #[.agg (tr ⟨⟨p, n, cp⟩⟩), .func (.func 176) #[] #[.pointer (some ⟨V.heap.size + 1, 0, none⟩), .pointer (some ⟨V.heap.size, 0, none⟩), .pointer (some ⟨V.heap.size + 1 + 1, 0, none⟩)]] W (fun e w' => ∃ u, e = .returned u ∧ OwnE Enum w' W.heap.size u (zh1 l was is bal) ∧ Below W.heap.size W w')) := fun f1 f2 V g W hW => by
  rw [z1j (z6u.2 ⟨f1, f2⟩)]
  exact ydj ⟨p, n, cp⟩ ⟨q, m, cq⟩ ⟨q', m', cq'⟩ (.slice r k cr) l was is bal V W hW (zad g h) (zad g h1) (zad g h1') (zad g h2) f1 f2
 have HNo : Hid (ofB l was is bal = false → zo0 l was is bal = [] ∧ zh1 l was is bal = []) := fun e => ⟨zzh e, z6c e⟩
 obtain ⟨f1, hf1⟩ : ∃ f, f = fitB l was bal := ⟨_, rfl⟩
 obtain ⟨f2, hf2⟩ : ∃ f, f = fitB l is bal := ⟨_, rfl⟩
 have ho : ofB l was is bal = (f1 && f2) := by unfold ofB; rw [hf1, hf2]
 rw [ho] at HNo
 rw [ho]
 rw [← hf1] at HF1 HS1 HS2
 rw [← hf2] at HF2 HS1 HS2
 generalize zo0 l was is bal = P at *
 generalize zh1 l was is bal = M at *
 obtain ⟨W0, hW0⟩ : ∃ W0, W0 = ((w.alloc (.cells (tr ⟨⟨p, n, cp⟩⟩) 24)).alloc (.cells (vo ⟨⟨q, m, cq⟩, was.out⟩) 29)).alloc (.cells (vo ⟨⟨q', m', cq'⟩, is.out⟩) 29) := ⟨_, rfl⟩
 obtain ⟨hB, k0, k1, k2, hz0⟩ := zf2 w _ _ _ _ _ _ W0 hW0
 have HB := Lib.hid hB
 have HW := Lib.hid hW0
 have K0 := Lib.hid k0
 have K1 := Lib.hid k1
 have K2 := Lib.hid k2
 clear hW0 h h1 h1' h2 hB k0 k1 k2 hz0 hf1 hf2 ho
 have z1 := (zai K0.out).2.1
 have y1 := (zbo K1.out).2.2.1
 go_enter Tryz.func118, Tryz.ntmps118
 go_wp2_with fail
 rw [← HW.out]
 go_wp2_with fail
 refine (HF1.out W0 HB.out).mono ?_
 rintro e w1 ⟨rfl, g1⟩
 have G1 := Lib.hid (zab HB.out g1)
 have M0 := Lib.hid (zac g1 K0.out)
 have M1 := Lib.hid (zac g1 K1.out)
 have M2 := Lib.hid (zac g1 K2.out)
 clear g1 z1 y1
 have z1 := (zai M0.out).2.1
 have y2 := (zbo M2.out).2.2.1
 cases f1
 ·
  obtain ⟨rfl, rfl⟩ := HNo.out rfl
  go_wp2_with fail
  (try simp only [Exit.inBlock, Exit.then])
  refine bodyPost_ret (zg7 rfl _ _ _) rfl ?_
  exact ⟨_, _, rfl, zbg _ _ _ _, zbg _ _ _ _, G1.out⟩
 ·
  go_wp2_with fail
  refine (HF2.out w1 G1.out).mono ?_
  rintro e w2 ⟨rfl, g2⟩
  have G2 := Lib.hid (zab G1.out g2)
  have N0 := Lib.hid (zac g2 M0.out)
  have N1 := Lib.hid (zac g2 M1.out)
  have N2 := Lib.hid (zac g2 M2.out)
  clear g2 z1 y2
  cases f2
  ·
   obtain ⟨rfl, rfl⟩ := HNo.out rfl
   go_wp2_with fail
   (try simp only [Exit.inBlock, Exit.then])
   refine bodyPost_ret (zg7 rfl _ _ _) rfl ?_
   exact ⟨_, _, rfl, zbg _ _ _ _, zbg _ _ _ _, G2.out⟩
  ·
   have S1 := Lib.hid (HS1.out (by simp) (by simp))
   have S2 := Lib.hid (HS2.out (by simp) (by simp))
   clear HS1 HS2 HNo
   have L0 := fun x : Wd w2.drew => zbb (zai N0.out).2.1 (by decide) x
   have L1 := fun x : Wd w2.drew => zbb (zbo N1.out).2.2.1 (by decide) x
   have L2 := fun x : Wd w2.drew => zbb (zbo N2.out).2.2.1 (by decide) x
   go_wp2_with fail
   refine zaj [4, 5, 10, 11] (by kernel_rfl) (by kernel_rfl) (by kernel_rfl) ?_
   repeat (refine zae rfl rfl _ zaf ?_; (first | go_big_quiet_step (fail) | quiet_step (fail)); refine wpQuiet_nil ?_)
   refine zan rfl rfl rfl zgj #[.agg (vo ⟨⟨q, m, cq⟩, was.out⟩), .agg (vo ⟨⟨q', m', cq'⟩, is.out⟩), .slice r k cr] rfl ?_
   refine (zsz _ _ _ _ _ _).mono ?_
   rintro e v1 ⟨rfl, hv1⟩
   have g1 : Below w2.drew.heap.size w2.drew v1 := (zf2 w2.drew _ _ _ _ _ _ v1 hv1).1
   have T1 : Hid (Below w2.heap.size w2 v1) := zab (zah (Below.refl _ _) 1) g1
   have HV := Lib.hid hv1
   refine ⟨_, rfl, g1, ?_⟩
   simp only [Act.put, List.setIfInBounds_toArray, List.set_cons_zero, List.set_cons_succ]
   clear g1 hv1
   refine zan rfl rfl rfl ziv #[.agg (tr ⟨⟨p, n, cp⟩⟩), .func (.func 176) #[] #[.pointer (some ⟨w2.drew.heap.size + 1, 0, none⟩), .pointer (some ⟨w2.drew.heap.size, 0, none⟩), .pointer (some ⟨w2.drew.heap.size + 1 + 1, 0, none⟩)]] rfl ?_
   refine (S1.out _ (zab G2.out (zah (Below.refl _ _) 1)) v1 HV.out).mono ?_
   rintro e v2 ⟨u1, rfl, ho1, g⟩
   have T2 : Hid (Below w2.heap.size w2 v2) := zab T1.out g
   have O1 := Lib.hid (za2 ho1)
   refine ⟨_, rfl, g, ?_⟩
   simp only [Act.put, List.setIfInBounds_toArray, List.set_cons_zero, List.set_cons_succ]
   clear g ho1 HV
   repeat (refine zae rfl rfl _ zaf ?_; (first | go_big_quiet_step (fail) | quiet_step (fail)); refine wpQuiet_nil ?_)
   refine zan rfl rfl rfl zgj #[.agg (vo ⟨⟨q', m', cq'⟩, is.out⟩), .agg (vo ⟨⟨q, m, cq⟩, was.out⟩), .slice r k cr] rfl ?_
   refine (zsz _ _ _ _ _ _).mono ?_
   rintro e v3 ⟨rfl, hv3⟩
   have g3 : Below v2.heap.size v2 v3 := (zf2 v2 _ _ _ _ _ _ v3 hv3).1
   have T3 : Hid (Below w2.heap.size w2 v3) := zab T2.out g3
   have O2 := Lib.hid (zad g3 O1.out)
   have HV := Lib.hid hv3
   refine ⟨_, rfl, g3, ?_⟩
   simp only [Act.put, List.setIfInBounds_toArray, List.set_cons_zero, List.set_cons_succ]
   clear g3 hv3
   refine zan rfl rfl rfl ziv #[.agg (tr ⟨⟨p, n, cp⟩⟩), .func (.func 176) #[] #[.pointer (some ⟨v2.heap.size + 1, 0, none⟩), .pointer (some ⟨v2.heap.size, 0, none⟩), .pointer (some ⟨v2.heap.size + 1 + 1, 0, none⟩)]] rfl ?_
   refine (S2.out _ (zab G2.out T2.out) v3 HV.out).mono ?_
   rintro e v4 ⟨u2, rfl, ho2, g⟩
   have T4 : Hid (Below w2.heap.size w2 v4) := zab T3.out g
   have O3 := Lib.hid (za2 ho2)
   have O4 := Lib.hid (zad g O2.out)
   refine ⟨_, rfl, g, ?_⟩
   simp only [Act.put, List.setIfInBounds_toArray, List.set_cons_zero, List.set_cons_succ]
   clear g ho2
   repeat (refine zae rfl rfl _ zaf ?_; (first | go_big_quiet_step (fail) | quiet_step (fail)); refine wpQuiet_nil ?_)
   refine za3 ?_
   clear L0 L1 L2
   go_wp2_with fail
   (try simp only [Exit.inBlock, Exit.then])
   refine bodyPost_ret (zg7 rfl _ _ _) rfl ?_
   exact ⟨_, _, rfl, O4.out, O3.out, zab G2.out T4.out⟩
theorem yez (s t t' : SlV) (u : Value) (l : List Nd) (was is : Vt) (bal : List UInt64) (w : World) (h : SlE Ene w (sv s) l) (h1 : SlE Elt w (sv t) was.l) (h1' : SlE Elt w (sv t') is.l) (h2 : SlE Enum w u bal) :
  Calls Tryz.prog 118 #[.agg (tr ⟨s⟩), .agg (vo ⟨t, was.out⟩), .agg (vo ⟨t', is.out⟩), u] w (yh1 (zo0 l was is bal) (zh1 l was is bal) (ofB l was is bal) w) := by
 obtain ⟨p, n, cp⟩ := s
 obtain ⟨q, m, cq⟩ := t
 obtain ⟨q', m', cq'⟩ := t'
 have k2 := h2
 obtain ⟨r, cr, rfl, _⟩ := zal h2
 exact z4n p q q' r n cp m cq m' cq' _ cr l was is bal w h h1 h1' k2
theorem ya9 : ∀ n, n ≤ 8 → (madeCells (Value.agg (lt zlt)).cells (n * 34)).toList = zaq Elt (List.replicate n zlt) := by
 intro n hn
 have : n = 0 ∨ n = 1 ∨ n = 2 ∨ n = 3 ∨ n = 4 ∨ n = 5 ∨ n = 6 ∨ n = 7 ∨ n = 8 := by omega
 rcases this with rfl | rfl | rfl | rfl | rfl | rfl | rfl | rfl | rfl <;> (refine Eq.symm ?_; kernel_rfl)
theorem z8l (n : Int) (w : World) :
  Calls Tryz.prog 58 #[.int .i64 n] w (VoOk (newV n) (zgl n) w) := by
 obtain ⟨W0, hW0⟩ : ∃ W0, W0 = w.alloc (.cells (vo zvo) 29) := ⟨_, rfl⟩
 have HB : Hid (Below w.heap.size w W0) := by rw [hW0]; exact below1
 have M0 : Hid (W0.heap[w.heap.size]? = some (.cells (vo zvo) 29 (0, 0))) := by rw [hW0]; exact heap_alloc_last w _
 have HW := Lib.hid hW0
 have HF := Lib.hid (z8j n W0)
 obtain ⟨i, hi, hz0, hz1, hz2⟩ := info_parts yft
 clear hW0
 by_cases hn : 1 ≤ n ∧ n ≤ 8
 ·
  obtain ⟨n, rfl⟩ : ∃ n' : Nat, n = n' := ⟨n.toNat, by omega⟩
  have e : zgl (n : Int) = true := decide_eq_true hn
  have HV : Hid (newV (n : Int) = ⟨List.replicate n zlt, 0⟩) := by unfold newV; rw [e, if_pos rfl]; exact Lib.hid rfl
  rw [e] at HF ⊢
  have HN : Hid (n ≤ 8) := by show n ≤ 8; omega
  have n0 : (0 : Int) ≤ (n : Int) := by omega
  clear hn e
  go_enter Tryz.func58, Tryz.ntmps58
  go_upto_region 1 with fail
  rw [← HW.out]
  go_wp2_with fail
  refine HF.out.mono ?_
  rintro e w1 ⟨rfl, g⟩
  have B1 := Lib.hid (zab HB.out g)
  have M1 := Lib.hid (zac g M0.out)
  clear g
  go_wp2_with (at_make; refine wpList_make_full _ rfl _ _ 26 rfl w1.heap.size 115 i _ 34 Tryz.underlying26 hi hz0 hz1 .i64 .i64 _ _ n rfl rfl rfl rfl (by rw [hz2]; have := HN.out; omega) (by unfold maxLen; have := HN.out; omega) (Nat.le_refl _) ?_; intro wz hown hgrow; have BZ : Hid (Below w1.heap.size w1 wz) := (Below.refl _ _).grown hgrow (Nat.le_refl _) (fun k hk => by cases hk); have OZ := Lib.hid hown; have MZ := Lib.hid (zac BZ.out M1.out); have y1 := zau MZ.out (zcp _); clear hown hgrow)
  have hS : SlE Elt wz (.slice (some ⟨w1.heap.size, 0, none⟩) n n) (List.replicate n zlt) := by
   have h := OZ.out
   rw [ya9 n HN.out] at h
   have : OwnE Elt wz w1.heap.size (.slice (some ⟨w1.heap.size, 0, none⟩) n n) (List.replicate n zlt) := by
    unfold OwnE
    rw [List.length_replicate]
    exact h
   exact za2 this
  have hF := zna MZ.out (r := vo ⟨⟨some ⟨w1.heap.size, 0, none⟩, n, n⟩, 0⟩) (by rw [zcp, zcp])
  have hne : w.heap.size ≠ w1.heap.size := by have := (Array.getElem?_eq_some_iff.1 M1.out).1; omega
  refine bodyPost_ret (v := .tuple #[.agg (vo ⟨⟨some ⟨w1.heap.size, 0, none⟩, n, n⟩, 0⟩), .bool true]) (zc9 Tryz.isAgg29 Tryz.sizeOf29 _ 2 3 rfl _ _ _ _ _ rfl rfl (zar hF (zcp _))) rfl ⟨⟨some ⟨w1.heap.size, 0, none⟩, n, n⟩, by rw [HV.out], by rw [HV.out]; exact zuy hS (by rw [zzs]; exact Nat.le_refl _) (fun b _ hb => zf3 (by have hb' : w1.heap.size = b := Option.some.inj hb; omega)), zas (zab B1.out BZ.out) (Nat.le_refl _)⟩
 ·
  have e : zgl n = false := decide_eq_false hn
  have HV : Hid (newV n = ⟨[], 0⟩) := by unfold newV; rw [e, if_neg Bool.false_ne_true]; exact Lib.hid rfl
  rw [e] at HF ⊢
  clear hn e hi hz0 hz1 hz2
  go_enter Tryz.func58, Tryz.ntmps58
  go_upto_region 1 with fail
  rw [← HW.out]
  go_wp2_with fail
  refine HF.out.mono ?_
  rintro e w1 ⟨rfl, g⟩
  have B1 := Lib.hid (zab HB.out g)
  have M1 := Lib.hid (zac g M0.out)
  have y1 := zau M1.out (zcp _)
  clear g
  go_wp2_with fail
  exact bodyPost_ret (v := .tuple #[.agg (vo zvo), .bool false]) (zc9 Tryz.isAgg29 Tryz.sizeOf29 _ 2 3 rfl _ _ _ _ _ rfl rfl (zar (zna M1.out rfl) (zcp _))) rfl ⟨⟨none, 0, 0⟩, by rw [HV.out]; rfl, by rw [HV.out]; exact zbg _ _ _ _, zas B1.out (Nat.le_refl _)⟩
def zou (l : List Nd) (f : Nat → Nat) (m i : Nat) : Nat := f i + sumF (fun c => if m ≤ c ∧ (nd l c).parent = (i : Int) then subT l f c else 0) l.length
theorem yfh {b : List UInt64} {k j x : Nat} (hk : k < b.length) (hx : x < 18446744073709551616) : fn (b.set k (UInt64.ofNat x)) j = if j = k then x else fn b j := by
 unfold fn
 rw [List.getD_eq_getElem?_getD, List.getElem?_set]
 by_cases h : k = j
 ·
  subst h
  rw [if_pos rfl, if_pos hk, if_pos rfl]
  show (UInt64.ofNat x).toNat = x
  rw [UInt64.toNat_ofNat', Nat.mod_eq_of_lt hx]
 ·
  rw [if_neg h, if_neg (fun e => h e.symm), List.getD_eq_getElem?_getD]
section
variable {l : List Nd} {f : Nat → Nat}
theorem z05 (i : Nat) : zou l f l.length i = f i := by
 unfold zou
 rw [zbx (g := fun _ => 0) _ (fun k hk => by rw [if_neg]; rintro ⟨h, _⟩; omega), zfu, Nat.add_zero]
theorem zm8 (h : MayT l) {i m : Nat} (hi : i < l.length) (hm : m ≤ i + 1) : zou l f m i = subT l f i := by
 rw [zzu h f hi]
 unfold zou
 congr 1
 refine zbx _ fun c hc => ?_
 by_cases e : (nd l c).parent = (i : Int)
 ·
  rw [if_pos e, if_pos]
  refine ⟨?_, e⟩
  by_cases h0 : c = 0
  ·
   subst h0; rw [h.first] at e; omega
  ·
   obtain ⟨h1, h2, _⟩ := h.par (Nat.pos_of_ne_zero h0) hc
   rw [h1] at e
   omega
 ·
  rw [if_neg e, if_neg (fun x => e x.2)]
theorem yfl (h : MayT l) {i : Nat} (m : Nat) (hi : i < l.length) : zou l f m i ≤ subT l f i := by
 rw [zzu h f hi]
 unfold zou
 refine Nat.add_le_add_left (zxu _ fun c _ => ?_) _
 by_cases e : (nd l c).parent = (i : Int)
 ·
  rw [if_pos e]; split <;> omega
 ·
  rw [if_neg (fun x => e x.2)]; omega
theorem zm9 {m : Nat} (hm : m < l.length) (i : Nat) : zou l f m i = zou l f (m + 1) i + (if (nd l m).parent = (i : Int) then subT l f m else 0) := by
 have e1 : (if (nd l m).parent = (i : Int) then subT l f m else 0) = sumF (fun c => if c = m ∧ (nd l m).parent = (i : Int) then subT l f m else 0) l.length := by
  rw [zsg (fun c => if c = m ∧ (nd l m).parent = (i : Int) then subT l f m else 0) hm (fun k _ hk => by rw [if_neg]; rintro ⟨h, _⟩; exact hk h)]
  simp
 rw [e1]
 unfold zou
 rw [Nat.add_assoc, ← zjq]
 congr 1
 refine zbx _ fun c _ => ?_
 by_cases hc : c = m
 ·
  subst hc
  have h1 : ¬ c + 1 ≤ c := by omega
  by_cases e : (nd l c).parent = (i : Int)
  ·
   simp [e, h1]
  ·
   simp [e]
 ·
  have : (m ≤ c) = (m + 1 ≤ c) := by rw [eq_iff_iff]; omega
  simp [hc, this]
def zqp (l : List Nd) (a : List UInt64) (m : Nat) (c : List UInt64) : Prop := c.length = l.length ∧ ∀ i, i < l.length → fn c i = zou l (fn a) m i
variable {a c : List UInt64}
theorem zv7 (h : a.length = l.length) : zqp l a l.length a := ⟨h, fun i _ => (z05 i).symm⟩
theorem z03 (hm : MayT l) (h : zqp l a 1 c) : zqp l a 0 c := ⟨h.1, fun i hi => by
 rw [h.2 i hi, zm9 hm.pos i, hm.first, if_neg (by omega), Nat.add_zero]⟩
theorem z02 (hm : MayT l) {m : Nat} (h0 : 0 < m) (hl : m < l.length) (h : zqp l a (m + 1) c) (hf : fn c (up l m) + fn c m < 18446744073709551616) : zqp l a m (c.set (up l m) (UInt64.ofNat (fn c (up l m) + fn c m))) := by
 obtain ⟨e1, e2, _⟩ := hm.par h0 hl
 refine ⟨by rw [List.length_set, h.1], fun i hi => ?_⟩
 rw [yfh (by rw [h.1]; omega) hf, zm9 hl i, e1, h.2 m hl, h.2 (up l m) (by omega), zm8 hm hl (Nat.le_refl _)]
 by_cases e : i = up l m
 ·
  rw [if_pos e, if_pos (by rw [e]), e]
 ·
  rw [if_neg e, if_neg (by omega), Nat.add_zero, h.2 i hi]
theorem z5h (hm : MayT l) {m : Nat} (h0 : 0 < m) (hl : m < l.length) (h : zqp l a (m + 1) c) (hf : ¬ fn c (up l m) + fn c m < 18446744073709551616) : zez l a = false := by
 obtain ⟨e1, e2, _⟩ := hm.par h0 hl
 rw [← Bool.not_eq_true]
 intro e
 have h1 := (zdj.1 e).2.2 (up l m) (by omega)
 have h2 := yfl (f := fn a) hm m (show up l m < l.length by omega)
 rw [zm9 hl, e1, if_pos rfl] at h2
 rw [h.2 m hl, h.2 (up l m) (by omega), zm8 hm hl (Nat.le_refl _)] at hf
 omega
theorem z5g (hm : MayT l) (ha : a.length = l.length) (h : zqp l a 0 c) : zez l a = true ∧ c = subL l a := by
 have e : ∀ i, i < l.length → fn c i = subT l (fn a) i := fun i hi => by rw [h.2 i hi, zm8 hm hi (Nat.zero_le _)]
 have ok : zez l a = true := zdj.2 ⟨hm, ha, fun i hi => by rw [← e i hi]; exact yas _ _⟩
 exact ⟨ok, z5e (by rw [h.1, zsd ok]) fun i hi => by rw [zsd ok] at hi; rw [e i hi, yg9 ok hi]⟩
end
theorem z3r (x y : Nat) (w : World) : (callFunc 198 #[.int .u64 (x : Int), .int .u64 (y : Int), .int .u64 0]).run Tryz.prog w =
  .ok (.value (.tuple #[.int .u64 (((x + y) % 18446744073709551616 : Nat) : Int), .int .u64 (((x + y) / 18446744073709551616 : Nat) : Int)])) w := by
 rw [run_callFunc_extern Tryz.func198 (by kernel_rfl) (by kernel_rfl) (by kernel_rfl) (e := add64Entry) (by kernel_rfl), run_add64 (x : Int) (y : Int) 0 (by omega) (by omega) (by omega) (by omega)]
 simp [Result.andThen]
theorem ycx (n : Int) (b : Bool) (w : World) :
  Calls Tryz.prog 178 #[.agg #[.int .u64 n, .bool b]] w fun e w' => e = .returned (.tuple #[.int .u64 (if b = true then n else 0), .bool b]) ∧ Below w.heap.size w w' := by
 cases b
 ·
  go_enter Tryz.func178, Tryz.ntmps178
  go_wp2
  go_ret2
  exact ⟨rfl, (Below.refl _ _).alloc (Nat.le_refl _) _⟩
 ·
  go_enter Tryz.func178, Tryz.ntmps178
  go_wp2
  go_ret2
  exact ⟨rfl, (Below.refl _ _).alloc (Nat.le_refl _) _⟩
theorem z1k (l : Int) (w : World) :
  Calls Tryz.prog 199 #[.agg #[.int .u64 0, .int .u64 l]] w fun e w' => e = .returned (.agg #[.int .u64 l, .bool true]) ∧ ∃ c1 c2, w' = (w.alloc (.cells c1 239)).alloc (.cells c2 209) := by
 go_enter Tryz.func199, Tryz.ntmps199
 go_wp2
 exact bodyPost_ret (v := .agg #[.int .u64 l, .bool true]) (by simp [results, Tryz.results199, go_sem]) rfl ⟨rfl, _, _, rfl⟩
theorem z6h (h l : Int) (hh : (h == 0) = false) (w : World) :
  Calls Tryz.prog 199 #[.agg #[.int .u64 h, .int .u64 l]] w fun e w' => e = .returned (.agg #[.int .u64 l, .bool false]) ∧ ∃ c1 c2, w' = (w.alloc (.cells c1 239)).alloc (.cells c2 209) := by
 go_enter Tryz.func199, Tryz.ntmps199
 go_wp2
 exact bodyPost_ret (v := .agg #[.int .u64 l, .bool false]) (by simp [results, Tryz.results199, go_sem]) rfl ⟨rfl, _, _, rfl⟩
theorem yjg (a b : Nat) (ha : a < 18446744073709551616) (hb : b < 18446744073709551616) (w : World) :
  Calls Tryz.prog 177 #[.int .u64 (a : Int), .int .u64 (b : Int)] w fun e w' => e = .returned (.agg #[.int .u64 (((a + b) % 18446744073709551616 : Nat) : Int), .bool (zht a b)]) ∧ Below w.heap.size w w' := by
 have e1 := fun w : World => z3r a b w
 obtain ⟨lo, hlo⟩ : ∃ x, x = (a + b) % 18446744073709551616 := ⟨_, rfl⟩
 obtain ⟨hi, hhi⟩ : ∃ x, x = (a + b) / 18446744073709551616 := ⟨_, rfl⟩
 rw [← hlo] at e1 ⊢
 rw [← hhi] at e1
 by_cases h : a + b < 18446744073709551616
 ·
  rw [show zht a b = true from decide_eq_true h]
  obtain rfl : hi = 0 := by omega
  clear h ha hb hlo hhi
  go_enter Tryz.func177, Tryz.ntmps177
  go_wp2_with fail
  refine (z1k _ _).mono ?_
  rintro e w1 ⟨rfl, c1, c2, rfl⟩
  go_wp2_with fail
  exact bodyPost_ret (v := .agg #[.int .u64 (lo : Int), .bool true]) (by simp [results, Tryz.results177, go_sem]) rfl ⟨rfl, zab (zab below1 below1) below1⟩
 ·
  rw [show zht a b = false from decide_eq_false h]
  have t0 : ((hi : Int) == 0) = false := beq_eq_false_iff_ne.2 (by omega)
  have T0 := Lib.hid t0
  clear h ha hb hlo hhi t0
  go_enter Tryz.func177, Tryz.ntmps177
  go_wp2_with fail
  refine (z6h _ _ T0.out _).mono ?_
  rintro e w1 ⟨rfl, c1, c2, rfl⟩
  go_wp2_with fail
  exact bodyPost_ret (v := .agg #[.int .u64 (lo : Int), .bool false]) (by simp [results, Tryz.results177, go_sem]) rfl ⟨rfl, zab (zab below1 below1) below1⟩
theorem yjf (a b : Nat) (ha : a < 18446744073709551616) (hb : b < 18446744073709551616) (w : World) :
  Calls Tryz.prog 152 #[.int .u64 (a : Int), .int .u64 (b : Int)] w fun e w' => e = .returned (.tuple #[.int .u64 (addV a b : Int), .bool (zht a b)]) ∧ Below w.heap.size w w' := by
 have c := Lib.hid (yjg a b ha hb w)
 have d := Lib.hid (ycx (((a + b) % 18446744073709551616 : Nat) : Int) (zht a b))
 have e1 : (if zht a b = true then (((a + b) % 18446744073709551616 : Nat) : Int) else 0) = (addV a b : Int) := by
  unfold zht addV
  by_cases h : a + b < 18446744073709551616
  ·
   rw [if_pos h, if_pos (decide_eq_true h)]; omega
  ·
   rw [if_neg h, if_neg (by rw [decide_eq_true_iff]; exact h)]; rfl
 rw [e1] at d
 obtain ⟨m, hm⟩ : ∃ m, m = (a + b) % 18446744073709551616 := ⟨_, rfl⟩
 obtain ⟨v, hv⟩ : ∃ v, v = addV a b := ⟨_, rfl⟩
 obtain ⟨ok, hok⟩ : ∃ x, x = zht a b := ⟨_, rfl⟩
 rw [← hm, ← hok] at c
 rw [← hm, ← hv, ← hok] at d
 rw [← hv, ← hok]
 clear e1 ha hb hm hv hok
 go_enter Tryz.func152, Tryz.ntmps152
 go_wp2_with fail
 refine c.out.mono ?_
 rintro e w1 ⟨rfl, h1⟩
 go_wp2_with fail
 refine (d.out w1).mono ?_
 rintro e w2 ⟨rfl, h2⟩
 go_wp2_with fail
 go_ret2
 exact ⟨rfl, zab h1 h2⟩
theorem zq0 : ∀ args w, (callFunc 152 args).run Tryz.prog w = .ok (.enter 152 args) w := za7 Tryz.func152 (by kernel_rfl) (by kernel_rfl)
structure Sm where
 t : Tr
 l : SlV
def smL (x : Sm) : List Value := (tr x.t).toList ++ ([sv x.l])
def sm (x : Sm) : Array Value := (smL x).toArray
theorem yg2 (x : Sm) : (sm x).toList = smL x := rfl
theorem yjo (x : Sm) : (smL x).length = 2 := by simp [smL, zbn]
theorem zkk (x : Sm) : (sm x).size = 2 := by rw [← Array.length_toList, yg2, yjo]
theorem yjp (x : Sm) : ∀ v ∈ smL x, v.oneCell' = true := by
 intro v hv
 unfold smL at hv
 simp only [List.mem_append, List.mem_singleton] at hv
 rcases hv with hv | rfl
 ·
  exact zzw _ v (by rw [zgd] at hv; exact hv)
 ·
  rfl
@[go_sem] theorem ym0 (x : Sm) : okA 2 (.agg (sm x)) = true := by
 show ((sm x).size == 2 && (sm x).all (·.oneCell')) = true
 rw [show (sm x).all (·.oneCell') = true from zdo (yjp x), zkk]; rfl
def zsm : Sm := ⟨ztr, ⟨none, 0, 0⟩⟩
theorem z84 (w : World) : (zeroValue 157).run Tryz.prog w = .ok (.agg (sm zsm)) w := by kernel_rfl
@[go_sem ↓] theorem yl5 (ρ : Operand → Value) (dst : Option Tmp) (x : Operand) (ty : TypeId) (pos : String) (after : Array Edge) (guard : Option (Nat × Bool)) (w : World) :
  (execOp ρ { dst, op := .load 157 x, type := ty, pos, after, guard }).run Tryz.prog w = zi5 (ldA w (ρ x) 2) w (zbf Tryz.prog ρ { dst, op := .load 157 x, type := ty, pos, after, guard } w) :=
 zbq Tryz.isAgg157 Tryz.sizeOf157 ρ dst x ty pos after guard w
@[go_sem ↓] theorem yld (ρ : Operand → Value) (dst : Option Tmp) (x y : Operand) (ty : TypeId) (pos : String) (after : Array Edge) (guard : Option (Nat × Bool)) (w : World) :
  (execOp ρ { dst, op := .store 157 x y, type := ty, pos, after, guard }).run Tryz.prog w = zhv (wrA w (ρ x) 2 && okA 2 (ρ y)) (stA w (ρ x) (ρ y)) (zbf Tryz.prog ρ { dst, op := .store 157 x y, type := ty, pos, after, guard } w) :=
 zbe Tryz.sizeOf157 ρ dst x y ty pos after guard w
@[go_sem ↓] theorem ykn (ρ : Operand → Value) (dst : Option Tmp) (ty : TypeId) (pos : String) (after : Array Edge) (guard : Option (Nat × Bool)) (w : World) :
  (execOp ρ { dst, op := .alloc 157, type := ty, pos, after, guard }).run Tryz.prog w = .ok (.value (.pointer (some ⟨w.heap.size, 0, none⟩))) (w.alloc (.cells (sm zsm) 157)) := by
 unfold execOp
 simp only [Instr.alloc, Sem.run_bind, z84, Result.andThen_ok]
 rfl
def places_sm : List (Nat × Nat) := [(0, 1), (1, 1)]
theorem z5b : ∀ w : World, ((Tryz.prog.fieldsOf 157).mapM (m := Sem) fun f => do pure (f.offset, ← Go.sizeOf f.type)).run Tryz.prog w = .ok places_sm.toArray w := fun _ => by kernel_rfl
theorem yc1 : Tryz.prog.underlying 157 = some (.struct (Tryz.prog.fieldsOf 157)) := by kernel_rfl
@[go_sem ↓] theorem yky (ρ : Operand → Value) (dst : Option Tmp) (p : Nat × Operand) (ps : List (Nat × Operand)) (ty : TypeId) (pos : String) (after : Array Edge) (guard : Option (Nat × Bool)) (w : World) :
  (execOp ρ { dst, op := .build 157 (p :: ps).toArray, type := ty, pos, after, guard }).run Tryz.prog w = zgh ((zgp places_sm (sm zsm) ((p.1, ρ p.2) :: ps.map fun p => (p.1, ρ p.2))).map .agg) w (zbf Tryz.prog ρ { dst, op := .build 157 (p :: ps).toArray, type := ty, pos, after, guard } w) :=
 zbv z84 yc1 z5b ρ dst (p :: ps).toArray ty pos after guard w
attribute [go_sem] places_sm zkk
theorem zr8 (x : Sm) : smL x = ([]) ++ ((tr x.t).toList ++ ([sv x.l])) ∧ ([] : List Value).length = 0 := by
 constructor
 ·
  unfold smL; simp
 ·
  rfl
theorem ycp (x : Sm) (y : Tr) : zba (sm x) 0 (tr y) = sm { x with t := y } := by
 rw [za6 (c := sm x) (zr8 x).1 (zr8 x).2 (by simp [zbn])]
 simp [sm, smL]
theorem zr7 (x : Sm) : smL x = ((tr x.t).toList) ++ ([sv x.l] ++ ([])) ∧ ((tr x.t).toList : List Value).length = 1 := by
 constructor
 ·
  unfold smL; simp
 ·
  simp [zbn]
theorem yg3 {w : World} {b off : Nat} {x : Sm} (h : w.rangeAt b off (smL x)) : w.cell? ⟨b, off + 1, none⟩ = some (sv x.l) := zbj h (zr7 x).1 (zr7 x).2
theorem ycq {w : World} {g : Nat} {t : TypeId} {fr : Nat × Nat} {x : Sm} (h : w.heap[g]? = some (.cells (sm x) t fr)) : w.cell? ⟨g, 1, none⟩ = some (sv x.l) := by have := yg3 (x := x) (zak h); rwa [Nat.zero_add] at this
theorem zzt (x : Sm) (y : SlV) : zba (sm x) 1 #[sv y] = sm { x with l := y } := by
 rw [za6 (c := sm x) (r := #[sv y]) (zr7 x).1 (zr7 x).2 rfl]
 simp [sm, smL]
theorem yg4 {w : World} {b off : Nat} {x : Sm} (h : w.rangeAt b off (smL x)) : w.rangeAt b (off + 0) (trL x.t) := by
 rw [← zgd]; exact zci h (zr8 x).1 (zr8 x).2
theorem zu1 {w : World} {b off : Nat} {x : Sm} (h : w.rangeAt b off (smL x)) : w.cell? ⟨b, off + 0, none⟩ = some (sv x.t.n) := zsi (yg4 h)
theorem z2q {w : World} {g : Nat} {t : TypeId} {fr : Nat × Nat} {x : Sm} (h : w.heap[g]? = some (.cells (sm x) t fr)) : w.cell? ⟨g, 0, none⟩ = some (sv x.t.n) := by have := zu1 (x := x) (zak h); rwa [Nat.zero_add] at this
theorem z2p (x : Sm) : (sm x)[0]? = some (sv x.t.n) := by have := zu1 (x := x) (zak (heap_alloc_last (default : World) (.cells (sm x) 0))); rw [cell_of_row _ _ _ _ _ _ (heap_alloc_last _ _), Nat.zero_add] at this; exact this
@[go_sem] theorem yjn (x : Sm) (h : 0 < (sm x).size) : (sm x)[0]'h = sv x.t.n := by have := z2p x; rw [Array.getElem?_eq_getElem h] at this; exact Option.some.inj this
attribute [go_sem] ycp zzt
@[go_sem] theorem yjq (x : Sm) (p : Option Addr) (k c : Nat) : zba (sm x) 1 #[.slice p k c] = sm { x with l := ⟨p, k, c⟩ } := zzt x ⟨p, k, c⟩
end Go.Proofs.YtkalofboioffiaaGreat
