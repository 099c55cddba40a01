import Derived.Test.YtmihlihlpdkdcaaGreatK11
import Derived.Laws.Cover3
import Derived.Test.YtmihlihlpdkdcaaGreatK12
import Derived.Deep.Cut
import Derived.Test.YtmihlihlpdkdcaaGreatQ08
import Derived.Test.YtmihlihlpdkdcaaGreatQ05
import Derived.Test.YtmihlihlpdkdcaaGreatQ09
import Derived.Deep.CutRange
import Derived.Deep.RegionLaw
import Derived.Test.YtmihlihlpdkdcaaGreatQ03
import Derived.Test.YtmihlihlpdkdcaaGreatQ04
import Derived.Maps.OwnSet
import Derived.Maps.AppendAt
import Derived.WideKeyArr2
import Derived.DeepKeys4
import Derived.Test.YtmihlihlpdkdcaaGreatQ07
import Derived.Test.YtmihlihlpdkdcaaGreatQ02
import Derived.Test.YtmihlihlpdkdcaaGreatQ01
namespace Go.Proofs.YtmihlihlpdkdcaaGreat
open Go.RowKit
set_option maxRecDepth 200000
set_option maxHeartbeats 64000000
theorem z5r (p q : Option Addr) (n m cl ck : Nat) (w : World) (hl : n ≠ m) :
  Calls Tryz.prog 54 #[.slice p n cl, .slice q m ck] w fun e w' => e = .returned (.bool false) ∧ Below w.heap.size w w' := by
 have e1 : ((n : Int) == (m : Int)) = false := by simp; omega
 clear hl
 go_enter Tryz.func54, Tryz.ntmps54
 go_wp2_with fail
 go_ret
 exact ⟨rfl, Below.refl _ _⟩
theorem z29 (p q : Option Addr) (n cl ck : Nat) (l k : List UInt64) (w : World) (h : SlE Enum w (.slice p n cl) l) (h' : SlE Enum w (.slice q n ck) k) (hl : l.length = n) (hk : k.length = n) (hn : n ≤ 1000) :
  Calls Tryz.prog 54 #[.slice p n cl, .slice q n ck] w fun e w' => e = .returned (.bool (decide (l = k))) ∧ Below w.heap.size w w' := by
 have HS := Lib.hid h
 have HT := Lib.hid h'
 have HL := Lib.hid hl
 have HK := Lib.hid hk
 have HN := Lib.hid hn
 obtain ⟨r, hr⟩ : ∃ r, r = decide (l = k) := ⟨_, rfl⟩
 rw [← hr]
 have HR := Lib.hid hr
 clear h h' hl hk hn hr
 go_enter Tryz.func54, Tryz.ntmps54
 go_wp2_with fail
 go_loopw [5, 13] (fun _ i wr => ∃ j : Nat, j ≤ n ∧ i = .int .i64 (j : Int) ∧ (∀ x, x < j → fn l x = fn k x) ∧ Below w.heap.size w wr) (fun _ i _ => n - (intOf i).toNat)
 case atStart => exact ⟨0, Nat.zero_le _, rfl, fun x hx => absurd hx (Nat.not_lt_zero _), Below.refl _ _⟩
 case round =>
  obtain ⟨j, hj, rfl, hx, hb⟩ := hrel
  have HX := Lib.hid hx
  have HB := Lib.hid hb
  clear hx hb
  by_cases hlt : j < n
  ·
   have i0 : (0 : Int) ≤ (j : Int) := by omega
   have i1 : (j : Int) < (n : Int) := by omega
   have u1 : (j : Int) + 1 < 10000 := by have := HN.out; omega
   obtain ⟨b1, o1, rfl, q1, x1⟩ := zcz (zac HB.out HS.out) (by have := HL.out; omega)
   obtain ⟨b2, o2, rfl, q2, x2⟩ := zcz (zac HB.out HT.out) (by have := HK.out; omega)
   have y1 := zca x1 (i := j) (by have := HL.out; omega)
   have y2 := zca x2 (i := j) (by have := HK.out; omega)
   clear x1 x2 q1 q2
   obtain ⟨yl, hyl⟩ : ∃ y, y = fn l j := ⟨_, rfl⟩
   obtain ⟨yk, hyk⟩ : ∃ y, y = fn k j := ⟨_, rfl⟩
   rw [← hyl] at y1
   rw [← hyk] at y2
   have HYl := Lib.hid hyl
   have HYk := Lib.hid hyk
   clear hyl hyk
   by_cases he : yl = yk
   ·
    have HE : Hid (fn l j = fn k j) := by show _ = _; rw [← HYl.out, ← HYk.out]; exact he
    rw [he] at y1
    clear he
    go_wp2_with fail
    go_quiet (fail)
    go_wp2_with fail
    go_roundw
    case rel => exact ⟨j + 1, by omega, by go_num, fun x hx => by
     rcases Nat.lt_succ_iff_lt_or_eq.1 hx with h | rfl
     ·
      exact HX.out x h
     ·
      exact HE.out, zap HB.out _⟩
    case measure => simp [intOf]; omega
   ·
    have hR : Hid (r = false) := by
     show r = false
     rw [HR.out, decide_eq_false_iff_not]
     intro e
     exact he (by rw [HYl.out, HYk.out, e])
    have t1 : ((yl : Int) == (yk : Int)) = false := by rw [beq_eq_false_iff_ne]; omega
    have t1' : ((yl : Int) != (yk : Int)) = true := by rw [bne_iff_ne]; omega
    clear he
    go_wp2_with fail
    go_quiet (fail)
    go_wp2_with fail
    go_ret
    exact ⟨by rw [hR.out]; first | done | rfl, zap HB.out _⟩
  ·
   obtain rfl : j = n := by omega
   have hR : Hid (r = true) := by
    show r = true
    rw [HR.out, decide_eq_true_iff]
    exact zu4 (by rw [HL.out, HK.out]) fun i hi => HX.out i (by have := HK.out; omega)
   go_wp2_with fail
   go_ret
   exact ⟨by rw [hR.out]; first | done | rfl, HB.out⟩
theorem z6u (v u : Value) (l k : List UInt64) (w : World) (h : SlE Enum w v l) (h' : SlE Enum w u k) (hn : l.length ≤ 1000) :
  Calls Tryz.prog 54 #[v, u] w fun e w' => e = .returned (.bool (decide (l = k))) ∧ Below w.heap.size w w' := by
 have hs := h
 have ht := h'
 obtain ⟨p, cl, rfl, _⟩ := zaj h
 obtain ⟨q, ck, rfl, _⟩ := zaj h'
 by_cases e : l.length = k.length
 ·
  rw [← e] at ht ⊢
  exact z29 p q l.length cl ck l k w hs ht rfl e.symm hn
 ·
  rw [decide_eq_false (fun he => e (by rw [he]))]
  exact z5r p q _ _ cl ck w e
theorem ybg (p q : Option Addr) (n m cl ck : Nat) (w : World) (hl : n ≠ m) :
  Calls Tryz.prog 87 #[.slice p n cl, .slice q m ck] w fun e w' => e = .returned (.bool false) ∧ Below w.heap.size w w' := by
 have e1 : ((n : Int) == (m : Int)) = false := by simp; omega
 clear hl
 go_enter Tryz.func87, Tryz.ntmps87
 go_wp2_with fail
 go_ret
 exact ⟨rfl, Below.refl _ _⟩
theorem z8r (p q : Option Addr) (n cl ck : Nat) (l k : List Lt) (w : World) (h : SlE Elt w (.slice p n cl) l) (h' : SlE Elt w (.slice q n ck) k) (hl : l.length = n) (hk : k.length = n) (hn : n ≤ 1000) :
  Calls Tryz.prog 87 #[.slice p n cl, .slice q n ck] w fun e w' => e = .returned (.bool (decide (l = k))) ∧ Below w.heap.size w w' := by
 have HS := Lib.hid h
 have HT := Lib.hid h'
 have HL := Lib.hid hl
 have HK := Lib.hid hk
 have HN := Lib.hid hn
 obtain ⟨r, hr⟩ : ∃ r, r = decide (l = k) := ⟨_, rfl⟩
 rw [← hr]
 have HR := Lib.hid hr
 clear h h' hl hk hn hr
 go_enter Tryz.func87, Tryz.ntmps87
 go_wp2_with fail
 go_loopw [5, 13] (fun _ i wr => ∃ j : Nat, j ≤ n ∧ i = .int .i64 j ∧ (∀ x, x < j → lat l x = lat k x) ∧ Below w.heap.size w wr) (fun _ i _ => n - (intOf i).toNat)
 case atStart => exact ⟨0, Nat.zero_le _, rfl, fun x hx => absurd hx (Nat.not_lt_zero _), Below.refl _ _⟩
 case round =>
  obtain ⟨j, hj, rfl, hx, hb⟩ := hrel
  have HX := Lib.hid hx
  have HB := Lib.hid hb
  clear hx hb
  by_cases hlt : j < n
  ·
   have i0 : (0 : Int) ≤ (j : Int) := by omega
   have i1 : (j : Int) < (n : Int) := by omega
   have u1 : (j : Int) + 1 < 10000 := by have := HN.out; omega
   obtain ⟨b1, o1, c1, e1, _, q1, x1⟩ := zc8 HS.out (by have := HL.out; omega)
   injection e1 with e2 _ e3
   subst e2 e3
   obtain ⟨b2, o2, c2, e1, _, q2, x2⟩ := zc8 HT.out (by have := HK.out; omega)
   injection e1 with e2 _ e3
   subst e2 e3
   have y1 : ldA wr (.pointer (some ⟨b1, o1 + j * 34, none⟩)) 34 = some (lt (lat l j)) := keep HB.out (zjp x1 (by have := HL.out; omega))
   have y2 : ldA wr (.pointer (some ⟨b2, o2 + j * 34, none⟩)) 34 = some (lt (lat k j)) := keep HB.out (zjp x2 (by have := HK.out; omega))
   clear x1 x2 q1 q2
   by_cases he : lat l j = lat k j
   ·
    have HE := Lib.hid he
    rw [he] at y1
    clear he
    go_wp2_with fail
    go_quiet (fail)
    go_wp2_with fail
    go_roundw
    case rel => exact ⟨j + 1, by omega, by go_num, fun x hx => by
     rcases Nat.lt_succ_iff_lt_or_eq.1 hx with h | rfl
     ·
      exact HX.out x h
     ·
      exact HE.out, zap HB.out _⟩
    case measure => simp [intOf]; omega
   ·
    have hR : Hid (r = false) := by
     show r = false
     rw [HR.out, decide_eq_false_iff_not]
     intro e; exact he (by rw [e])
    have t1 : decide (lat l j = lat k j) = false := decide_eq_false he
    clear he
    go_wp2_with fail
    go_quiet (fail)
    go_wp2_with fail
    go_ret
    exact ⟨by rw [hR.out]; first | done | rfl, zap HB.out _⟩
  ·
   obtain rfl : j = n := by omega
   have hR : Hid (r = true) := by
    show r = true
    rw [HR.out, decide_eq_true_iff]
    exact z5q (by rw [HL.out, HK.out]) fun i hi => HX.out i (by have := HK.out; omega)
   go_wp2_with fail
   go_ret
   exact ⟨by rw [hR.out]; first | done | rfl, HB.out⟩
theorem z3x (s t : SlV) (l k : List Lt) (w : World) (h : SlE Elt w (sv s) l) (h' : SlE Elt w (sv t) k) (hn : l.length ≤ 1000) :
  Calls Tryz.prog 87 #[sv s, sv t] w fun e w' => e = .returned (.bool (decide (l = k))) ∧ Below w.heap.size w w' := by
 have hs := ziu h
 have ht := ziu h'
 obtain ⟨p, n, cl⟩ := s
 obtain ⟨q, m, ck⟩ := t
 dsimp only at hs ht
 by_cases e : n = m
 ·
  subst e
  exact z8r p q n cl ck l k w h h' hs ht (by omega)
 ·
  rw [decide_eq_false (fun he => e (by rw [← hs, ← ht, he]))]
  exact ybg p q n m cl ck w e
open Go.RowKit
section
variable {w W W' : World} {T : Nat} {s : SlV} {v : Vt}
structure Vw (w W : World) (T : Nat) (s : SlV) (v : Vt) : Prop where
 box : W.heap[T]? = some (.cells (vo ⟨s, v.out⟩) 32 (0, 0))
 s : SlE Elt W (sv s) v.l
 g : Below w.heap.size w W
theorem Vw.keep (h : Vw w W T s v) (g : Below W.heap.size W W') : Vw w W' T s v := ⟨zab g h.box, zac g h.s, zad h.g g⟩
theorem Vw.z1 (h : Vw w W T s v) : ldA W (.pointer (some ⟨T, 0, none⟩)) 2 = some (vo ⟨s, v.out⟩) := (zbn h.box).2.2.1
theorem Vw.z0 (h : Vw w W T s v) : W.cell? ⟨T, 0, none⟩ = some (sv s) := (zbn h.box).1
theorem Vw.zo (h : Vw w W T s v) : W.cell? ⟨T, 1, none⟩ = some (.int .u64 (v.out.toNat : Int)) := (zbn h.box).2.1
theorem yv5 (h : SlE Elt w (sv s) v.l) : Vw w (w.alloc (.cells (vo ⟨s, v.out⟩) 32)) w.heap.size s v := ⟨heap_alloc_last w _, zac below1 h, below1⟩
end
theorem ytt {w W : World} {s s' : SlV} {v u : Vt} (hW : W = (w.alloc (.cells (vo ⟨s, v.out⟩) 32)).alloc (.cells (vo ⟨s', u.out⟩) 32)) (h : SlE Elt w (sv s) v.l) (h' : SlE Elt w (sv s') u.l) : Vw w W w.heap.size s v ∧ Vw w W (w.heap.size + 1) s' u := by
 obtain ⟨g, m, n, _⟩ := zd0 w _ _ _ _ W hW
 exact ⟨⟨m, zac g h, g⟩, ⟨n, zac g h', g⟩⟩
theorem yim (s s' : SlV) (v u : Vt) (w : World) (h : SlE Elt w (sv s) v.l) (h' : SlE Elt w (sv s') u.l) (hn : v.l.length ≤ 1000) :
  Calls Tryz.prog 55 #[.agg (vo ⟨s, v.out⟩), .agg (vo ⟨s', u.out⟩)] w fun e w' => e = .returned (.bool (decide (v = u))) ∧ Below w.heap.size w w' := by
 obtain ⟨W0, hW0⟩ : ∃ W0, W0 = (w.alloc (.cells (vo ⟨s, v.out⟩) 32)).alloc (.cells (vo ⟨s', u.out⟩) 32) := ⟨_, rfl⟩
 obtain ⟨a0, b0⟩ := ytt hW0 h h'
 have A := Lib.hid a0
 have B := Lib.hid b0
 have HW := Lib.hid hW0
 have HE := Lib.hid (z3x s s' v.l u.l W0 a0.s b0.s hn)
 obtain ⟨r, hr⟩ : ∃ r, r = decide (v = u) := ⟨_, rfl⟩
 rw [← hr]
 have z0 := a0.z0
 have z1 := b0.z0
 have z2 := a0.zo
 have z3 := b0.zo
 by_cases ho : v.out = u.out
 ·
  have HR : Hid (decide (v.l = u.l) = r) := by
   show _ = _
   rw [hr, Bool.eq_iff_iff, decide_eq_true_iff, decide_eq_true_iff]
   exact ⟨fun e => Vt.ext e ho, fun e => by rw [e]⟩
  rw [ho] at z2
  rw [HR.out] at HE
  clear a0 b0 hW0 h h' hn hr ho HR
  go_enter Tryz.func55, Tryz.ntmps55
  go_upto_region 1 with fail
  rw [← HW.out]
  go_wp2_with fail
  refine HE.out.mono ?_
  rintro e w1 ⟨rfl, g⟩
  go_wp2_with fail
  go_ret
  exact ⟨rfl, zad A.out.g g⟩
 ·
  have hR : Hid (r = false) := by
   show r = false
   rw [hr, decide_eq_false_iff_not]
   intro e; exact ho (by rw [e])
  obtain ⟨a, ha⟩ : ∃ a, a = (v.out.toNat : Int) := ⟨_, rfl⟩
  obtain ⟨b, hb⟩ : ∃ b, b = (u.out.toNat : Int) := ⟨_, rfl⟩
  have t1 : (a == b) = false := by
   rw [beq_eq_false_iff_ne, ha, hb]
   intro e; exact ho (UInt64.toNat_inj.1 (by omega))
  rw [← ha] at z2
  rw [← hb] at z3
  clear a0 b0 hW0 h h' hn hr ho ha hb HE
  go_enter Tryz.func55, Tryz.ntmps55
  go_upto_region 1 with fail
  rw [← HW.out]
  go_wp2_with fail
  go_ret
  exact ⟨by rw [hR.out]; first | done | rfl, A.out.g⟩
theorem zoo (v u : Value) (a b : List UInt64) (w : World) (h : SlE Enum w v a) (h' : SlE Enum w u b) (hn : a.length ≤ 1000) :
  Calls Tryz.prog 27 #[v, u] w fun e w' => e = .returned (.bool (decide (a = b))) ∧ Below w.heap.size w w' := by
 have HE := Lib.hid (z6u v u a b w h h' hn)
 obtain ⟨r, hr⟩ : ∃ r, r = decide (a = b) := ⟨_, rfl⟩
 rw [← hr] at HE
 rw [← hr]
 clear h h' hn hr
 go_enter Tryz.func27, Tryz.ntmps27
 go_wp2_with fail
 refine HE.out.mono ?_
 rintro e w1 ⟨rfl, g⟩
 go_wp2_with fail
 go_ret
 exact ⟨rfl, g⟩
theorem zyw {w : World} {p : Option Addr} {n cp : Nat} {l : List Aa} (h : SlE Eaa w (.slice p n cp) l) (h0 : 0 < l.length) : ∃ b o, p = some ⟨b, o, none⟩ ∧ b < w.heap.size ∧ w.rangeAt b o (zan Eaa l) := by
 obtain ⟨b, o, c, e, _, q, x⟩ := zc8 h h0
 injection e with e1 e2 e3
 exact ⟨b, o, e1, q, x⟩
theorem zs4 {w : World} {b off : Nat} {l : List Aa} (h : w.rangeAt b off (zan Eaa l)) {i : Nat} (hi : i < l.length) : ldA w (.pointer (some ⟨b, off + i * 100, none⟩)) 100 = some (aa (att l i)) := by
 have := ztn h hi
 rw [znt hi]
 exact this.trans (by rw [show (Eaa.enc l[i]).toArray = aa l[i] from Array.toList_inj.1 (by rw [zx1]; rfl)])
theorem yp9 {l k : List Aa} (hl : l.length = k.length) (h : ∀ i, i < k.length → att l i = att k i) : l = k := by
 refine List.ext_getElem hl fun i h1 h2 => ?_
 have := h i h2
 rwa [znt h1, znt h2] at this
theorem KaaB : zll Tryz.prog Eaa 33 128 := ⟨Tryz.underlying33, .agg (aa zaa), yd8, by show ((aa zaa)).size = _; exact zfg _⟩
def yht (L : List Aa) (n : Nat) (w : World) (e : Ending) (w' : World) : Prop := ∃ v, e = .returned (.tuple #[v, .int .i64 (n : Int)]) ∧ SlE Eaa w' v L ∧ Below w.heap.size w w'
def zys (L K : List Aa) (w : World) (e : Ending) (w' : World) : Prop := ∃ v u, e = .returned (.tuple #[v, u]) ∧ SlE Eaa w' v L ∧ SlE Eaa w' u K ∧ Below w.heap.size w w'
theorem z3i (w : World) (x : Aa) (b : Nat) (hb : b = w.heap.size) : SlE Eaa (w.alloc (.cells (aa x) 62)) (.slice (some ⟨b, 0, none⟩) 1 1) [x] := ze9 _ [x] 1 _ _ _ rfl hb (by simp [zan, Eaa, zx1])
theorem yad (p q : Option Addr) (n m cl ck : Nat) (w : World) (hl : n ≠ m) :
  Calls Tryz.prog 88 #[.slice p n cl, .slice q m ck] w fun e w' => e = .returned (.bool false) ∧ Below w.heap.size w w' := by
 have e1 : ((n : Int) == (m : Int)) = false := by simp; omega
 clear hl
 go_enter Tryz.func88, Tryz.ntmps88
 go_wp2_with fail
 go_ret
 exact ⟨rfl, Below.refl _ _⟩
theorem yaj (p q : Option Addr) (n cl ck : Nat) (l k : List Aa) (w : World) (h : SlE Eaa w (.slice p n cl) l) (h' : SlE Eaa w (.slice q n ck) k) (hl : l.length = n) (hk : k.length = n) (hn : n ≤ 1000) :
  Calls Tryz.prog 88 #[.slice p n cl, .slice q n ck] w fun e w' => e = .returned (.bool (decide (l = k))) ∧ Below w.heap.size w w' := by
 have HS := Lib.hid h
 have HT := Lib.hid h'
 have HL := Lib.hid hl
 have HK := Lib.hid hk
 have HN := Lib.hid hn
 obtain ⟨r, hr⟩ : ∃ r, r = decide (l = k) := ⟨_, rfl⟩
 rw [← hr]
 have HR := Lib.hid hr
 clear h h' hl hk hn hr
 go_enter Tryz.func88, Tryz.ntmps88
 go_wp2_with fail
 go_loopw [5, 13] (fun _ i wr => ∃ j : Nat, j ≤ n ∧ i = .int .i64 j ∧ (∀ x, x < j → att l x = att k x) ∧ Below w.heap.size w wr) (fun _ i _ => n - (intOf i).toNat)
 case atStart => exact ⟨0, Nat.zero_le _, rfl, fun x hx => absurd hx (Nat.not_lt_zero _), Below.refl _ _⟩
 case round =>
  obtain ⟨j, hj, rfl, hx, hb⟩ := hrel
  have HX := Lib.hid hx
  have HB := Lib.hid hb
  clear hx hb
  by_cases hlt : j < n
  ·
   have i0 : (0 : Int) ≤ (j : Int) := by omega
   have i1 : (j : Int) < (n : Int) := by omega
   have u1 : (j : Int) + 1 < 10000 := by have := HN.out; omega
   obtain ⟨b1, o1, c1, e1, _, q1, x1⟩ := zc8 HS.out (by have := HL.out; omega)
   injection e1 with e2 _ e3
   subst e2 e3
   obtain ⟨b2, o2, c2, e1, _, q2, x2⟩ := zc8 HT.out (by have := HK.out; omega)
   injection e1 with e2 _ e3
   subst e2 e3
   have y1 : ldA wr (.pointer (some ⟨b1, o1 + j * 100, none⟩)) 100 = some (aa (att l j)) := keep HB.out (zs4 x1 (by have := HL.out; omega))
   have y2 : ldA wr (.pointer (some ⟨b2, o2 + j * 100, none⟩)) 100 = some (aa (att k j)) := keep HB.out (zs4 x2 (by have := HK.out; omega))
   clear x1 x2 q1 q2
   by_cases he : att l j = att k j
   ·
    have HE := Lib.hid he
    rw [he] at y1
    clear he
    go_wp2_with fail
    go_quiet (fail)
    go_wp2_with fail
    go_roundw
    case rel => exact ⟨j + 1, by omega, by go_num, fun x hx => by
     rcases Nat.lt_succ_iff_lt_or_eq.1 hx with h | rfl
     ·
      exact HX.out x h
     ·
      exact HE.out, zap HB.out _⟩
    case measure => simp [intOf]; omega
   ·
    have hR : Hid (r = false) := by
     show r = false
     rw [HR.out, decide_eq_false_iff_not]
     intro e; exact he (by rw [e])
    have t1 : decide (att l j = att k j) = false := decide_eq_false he
    clear he
    go_wp2_with fail
    go_quiet (fail)
    go_wp2_with fail
    go_ret
    exact ⟨by rw [hR.out]; first | done | rfl, zap HB.out _⟩
  ·
   obtain rfl : j = n := by omega
   have hR : Hid (r = true) := by
    show r = true
    rw [HR.out, decide_eq_true_iff]
    exact yp9 (by rw [HL.out, HK.out]) fun i hi => HX.out i (by have := HK.out; omega)
   go_wp2_with fail
   go_ret
   exact ⟨by rw [hR.out]; first | done | rfl, HB.out⟩
theorem yqi (v u : Value) (l k : List Aa) (w : World) (h : SlE Eaa w v l) (h' : SlE Eaa w u k) (hn : l.length ≤ 1000) :
  Calls Tryz.prog 88 #[v, u] w fun e w' => e = .returned (.bool (decide (l = k))) ∧ Below w.heap.size w w' := by
 have hs := h
 have ht := h'
 obtain ⟨p, cl, rfl, _⟩ := zaj h
 obtain ⟨q, ck, rfl, _⟩ := zaj h'
 by_cases e : l.length = k.length
 ·
  rw [← e] at ht ⊢
  exact yaj p q l.length cl ck l k w hs ht rfl e.symm hn
 ·
  rw [decide_eq_false (fun he => e (by rw [he]))]
  exact yad p q _ _ cl ck w e
theorem yl1 (v u : Value) (l k : List Aa) (w : World) (h : SlE Eaa w v l) (h' : SlE Eaa w u k) (hn : l.length ≤ 1000) :
  Calls Tryz.prog 56 #[v, u] w fun e w' => e = .returned (.bool (decide (l = k))) ∧ Below w.heap.size w w' := by
 have HE := Lib.hid (yqi v u l k w h h' hn)
 obtain ⟨r, hr⟩ : ∃ r, r = decide (l = k) := ⟨_, rfl⟩
 rw [← hr] at HE ⊢
 clear h h' hn hr
 go_enter Tryz.func56, Tryz.ntmps56
 go_wp2_with fail
 refine HE.out.mono ?_
 rintro e w1 ⟨rfl, g⟩
 go_wp2_with fail
 go_ret
 exact ⟨rfl, g⟩
structure Ed where
 s : Ck
 t : Ck
theorem Ed.ext {x y : Ed} (h0 : x.s = y.s) (h1 : x.t = y.t) : x = y := by cases x; cases y; simp_all
instance : DecidableEq Ed := fun x y => decidable_of_iff (x.s = y.s ∧ x.t = y.t) ⟨fun h => Ed.ext h.1 h.2, fun h => by subst h; exact ⟨rfl, rfl⟩⟩
def edL (x : Ed) : List Value := (cc x.s).toList ++ ((cc x.t).toList)
def ed (x : Ed) : Array Value := (edL x).toArray
theorem z5g (x : Ed) : (ed x).toList = edL x := rfl
theorem yt2 (x : Ed) : (edL x).length = 66 := by simp [edL, za1]
theorem zj4 (x : Ed) : (ed x).size = 66 := by rw [← Array.length_toList, z5g, yt2]
theorem yv2 (x : Ed) : ∀ v ∈ edL x, v.oneCell' = true := by
 intro v hv
 unfold edL at hv
 simp only [List.mem_append] at hv
 rcases hv with hv | hv
 ·
  exact zm9 _ v (by rw [zb3] at hv; exact hv)
 ·
  exact zm9 _ v (by rw [zb3] at hv; exact hv)
@[go_sem] theorem yy3 (x : Ed) : okA 66 (.agg (ed x)) = true := by
 show ((ed x).size == 66 && (ed x).all (·.oneCell')) = true
 rw [show (ed x).all (·.oneCell') = true from zf1 (yv2 x), zj4]; rfl
def zed : Ed := ⟨zcc, zcc⟩
theorem ydg (w : World) : (zeroValue 139).run Tryz.prog w = .ok (.agg (ed zed)) w := by kernel_rfl
@[go_sem ↓] theorem ywi (ρ : Operand → Value) (dst : Option Tmp) (x y : Operand) (ty : TypeId) (pos : String) (after : Array Edge) (guard : Option (Nat × Bool)) (w : World) :
  (execOp ρ { dst, op := .store 139 x y, type := ty, pos, after, guard }).run Tryz.prog w = zjf (wrA w (ρ x) 66 && okA 66 (ρ y)) (stA w (ρ x) (ρ y)) (zbe Tryz.prog ρ { dst, op := .store 139 x y, type := ty, pos, after, guard } w) :=
 zbh Tryz.sizeOf139 ρ dst x y ty pos after guard w
@[go_sem ↓] theorem ywg (ρ : Operand → Value) (dst : Option Tmp) (ty : TypeId) (pos : String) (after : Array Edge) (guard : Option (Nat × Bool)) (w : World) :
  (execOp ρ { dst, op := .alloc 139, type := ty, pos, after, guard }).run Tryz.prog w = .ok (.value (.pointer (some ⟨w.heap.size, 0, none⟩))) (w.alloc (.cells (ed zed) 139)) := by
 unfold execOp
 simp only [Instr.alloc, Sem.run_bind, ydg, Result.andThen_ok]
 rfl
def places_ed : List (Nat × Nat) := [(0, 33), (33, 33)]
theorem yck : ∀ w : World, ((Tryz.prog.fieldsOf 139).mapM (m := Sem) fun f => do pure (f.offset, ← Go.sizeOf f.type)).run Tryz.prog w = .ok places_ed.toArray w := fun _ => by kernel_rfl
theorem zw5 : Tryz.prog.underlying 139 = some (.struct (Tryz.prog.fieldsOf 139)) := by kernel_rfl
theorem yrq : (Tryz.prog.fieldsOf 139).toList.map (fun f => (f.name, f.type, f.offset)) = [("s", 37, 0), ("t", 37, 33)] := by kernel_rfl
@[go_sem ↓] theorem ywt (ρ : Operand → Value) (dst : Option Tmp) (p : Nat × Operand) (ps : List (Nat × Operand)) (ty : TypeId) (pos : String) (after : Array Edge) (guard : Option (Nat × Bool)) (w : World) :
  (execOp ρ { dst, op := .build 139 (p :: ps).toArray, type := ty, pos, after, guard }).run Tryz.prog w = zhu ((zi1 places_ed (ed zed) ((p.1, ρ p.2) :: ps.map fun p => (p.1, ρ p.2))).map .agg) w (zbe Tryz.prog ρ { dst, op := .build 139 (p :: ps).toArray, type := ty, pos, after, guard } w) :=
 zcb ydg zw5 yck ρ dst (p :: ps).toArray ty pos after guard w
attribute [go_sem] places_ed zj4
theorem zyv (x : Ed) : edL x = ([]) ++ ((cc x.s).toList ++ ((cc x.t).toList)) ∧ ([] : List Value).length = 0 := by
 constructor
 ·
  unfold edL; simp
 ·
  rfl
theorem z5w (x : Ed) : (ed x).extract 0 (0 + 33) = cc x.s := zcx (zyv x).1 (zyv x).2 (za1 _)
theorem yjs (x : Ed) (y : Ck) : zax (ed x) 0 (cc y) = ed { x with s := y } := by
 rw [za0 (c := ed x) (zyv x).1 (zyv x).2 (by simp [za1])]
 simp [ed, edL]
theorem zyp (x : Ed) : edL x = ((cc x.s).toList) ++ ((cc x.t).toList ++ ([])) ∧ ((cc x.s).toList : List Value).length = 33 := by
 constructor
 ·
  unfold edL; simp
 ·
  simp [za1]
theorem z7e (x : Ed) : (ed x).extract 33 (33 + 33) = cc x.t := zcx (zyp x).1 (zyp x).2 (za1 _)
theorem yjz (x : Ed) (y : Ck) : zax (ed x) 33 (cc y) = ed { x with t := y } := by
 rw [za0 (c := ed x) (zyp x).1 (zyp x).2 (by simp [za1])]
 simp [ed, edL]
attribute [go_sem] yjs yjz
theorem zv4 : Tryz.prog.cellsOf 139 = 66 := by kernel_rfl
section
open Go.Maps
def z84 (r : Rt) : List Lit := (List.range 32).map fun i => Lit.int .u8 (at8 r i)
def rk (r : Rt) : Lit := .string (keyBytes (z84 r))
theorem keyed_root : Keyed Tryz.prog 23 := Keyed.of_law arr_root.law
theorem wf8 (r : Rt) (i : Nat) : (Lit.int .u8 (at8 r i)).wf = true := by
 have := yvd r i
 show (decide (IntKind.u8.min ≤ at8 r i) && decide (at8 r i ≤ IntKind.u8.max)) = true
 rw [Bool.and_eq_true, decide_eq_true_eq, decide_eq_true_eq, show IntKind.u8.min = 0 from rfl, show IntKind.u8.max = 255 from rfl]
 omega
theorem zhf (r : Rt) : keyOf Tryz.prog 23 (.agg (rc r)) = some (rk r) := by
 have hkt : Tryz.prog.keyType 23 = true := by kernel_rfl
 have hf : (Value.agg (rc r)).formed Tryz.prog 23 = true := by simp [Value.formed, Tryz.underlying23, arr_root.size, zar]
 obtain ⟨D, hD⟩ : ∃ D, Tryz.prog.types.size = D + 1 := ⟨Tryz.prog.types.size - 1, by have : 1 ≤ Tryz.prog.types.size := of_decide_eq_true (by kernel_rfl); omega⟩
 unfold keyOf
 simp only [Tryz.underlying23]
 rw [if_pos (by rw [hkt, hf]; rfl), hD]
 unfold Program.keyLits
 simp only [Tryz.underlying23, Value.cells]
 rw [if_pos (by rw [arr_root.size]; simp [zar]), arr_root.one]
 rw [zx0 _ (List.range 32) ((List.range 32).map fun i => [Lit.int .u8 (at8 r i)]) (by simp) (fun j x y hx hy => ?_)]
 ·
  have hfl : ∀ l : List Nat, (l.map fun i => [Lit.int .u8 (at8 r i)]).flatten = l.map fun i => Lit.int .u8 (at8 r i) := fun l => by induction l with | nil => rfl | cons a t ih => simp [ih]
  simp [hfl, rk, z84]
 ·
  have hj : j < 32 := by simpa using (List.getElem?_eq_some_iff.1 hx).1
  have ex : x = j := by
   obtain ⟨_, e⟩ := List.getElem?_eq_some_iff.1 hx
   simpa using e.symm
  subst ex
  have ey : y = [Lit.int .u8 (at8 r x)] := by
   rw [List.getElem?_map, hx] at hy
   simpa using hy.symm
  subst ey
  have hg : ((rc r).toList.drop (x * 1)).take 1 = [.int .u8 (at8 r x)] := by
   have hl : x < (rc r).toList.length := by simp [zar]; exact hj
   rw [Nat.mul_one, List.drop_eq_getElem_cons hl]
   simp [zos]
  rw [hg]
  unfold Program.keyLits
  simp only [Tryz.underlying5]
  rw [if_pos ⟨trivial, wf8 r x⟩]
theorem yhv {a b : Rt} (h : rk a = rk b) : a = b := by
 have := keyed_root.inj (zhf a) (by rw [h]; exact zhf b)
 injection this with e
 exact yon e
theorem zmz (r : Rt) : WideAt.IsKeyLit (rk r) := keyed_root.key (zhf r)
theorem zb6 {H : Type} {P : Program} {k : TypeId} {R : Value → Option (DataW H × List MemPlace)} {b n : Nat} {D : DataW H} {W w1 : World} (g : Below W.heap.size W w1) (h : W.ownsMap P k R b n D) : w1.ownsMap P k R b n D := by
 obtain ⟨es, clock, hb, F, hn, hD⟩ := h
 exact ⟨es, clock, (g.block _ (Array.getElem?_eq_some_iff.1 hb).1).trans hb, F, hn, hD⟩
end
section
open Go.Maps
def z8n (c : Ck) : List Lit := Lit.int .u64 (c.epoch.toNat : Int) :: z84 c.root
theorem yyn : laidOutB Tryz.prog = true := by kernel_rfl
theorem yxw (D : Nat) (r : Rt) (i : Nat) : Tryz.prog.keyLits (D + 1) 5 [.int .u8 (at8 r i)] = some [Lit.int .u8 (at8 r i)] := by
 unfold Program.keyLits
 simp only [Tryz.underlying5]
 rw [if_pos ⟨trivial, wf8 r i⟩]
theorem wf64 (e : UInt64) : (Lit.int .u64 (e.toNat : Int)).wf = true := by
 have := e.toNat_lt
 show (decide (IntKind.u64.min ≤ (e.toNat : Int)) && decide ((e.toNat : Int) ≤ IntKind.u64.max)) = true
 rw [Bool.and_eq_true, decide_eq_true_eq, decide_eq_true_eq, show IntKind.u64.min = 0 from rfl, show IntKind.u64.max = 18446744073709551615 from rfl]
 omega
theorem yus (D : Nat) (e : UInt64) : Tryz.prog.keyLits (D + 1) 30 [num e] = some [Lit.int .u64 (e.toNat : Int)] := by
 show Tryz.prog.keyLits (D + 1) 30 [.int .u64 (e.toNat : Int)] = _
 unfold Program.keyLits
 simp only [Tryz.underlying30]
 rw [if_pos ⟨trivial, wf64 e⟩]
theorem yta (D : Nat) (r : Rt) : Tryz.prog.keyLits (D + 2) 23 (rc r).toList = some (z84 r) := by
 unfold Program.keyLits
 simp only [Tryz.underlying23]
 rw [if_pos (by rw [arr_root.size]; simp [zar]), arr_root.one]
 rw [zx0 _ (List.range 32) ((List.range 32).map fun i => [Lit.int .u8 (at8 r i)]) (by simp) (fun j x y hx hy => ?_)]
 ·
  have hfl : ∀ l : List Nat, (l.map fun i => [Lit.int .u8 (at8 r i)]).flatten = l.map fun i => Lit.int .u8 (at8 r i) := fun l => by induction l with | nil => rfl | cons a t ih => simp [ih]
  simp [hfl, z84]
 ·
  have hj : j < 32 := by simpa using (List.getElem?_eq_some_iff.1 hx).1
  have ex : x = j := by
   obtain ⟨_, e⟩ := List.getElem?_eq_some_iff.1 hx
   simpa using e.symm
  subst ex
  have ey : y = [Lit.int .u8 (at8 r x)] := by
   rw [List.getElem?_map, hx] at hy
   simpa using hy.symm
  subst ey
  have hg : ((rc r).toList.drop (x * 1)).take 1 = [.int .u8 (at8 r x)] := by
   have hl : x < (rc r).toList.length := by simp [zar]; exact hj
   rw [Nat.mul_one, List.drop_eq_getElem_cons hl]
   simp [zos]
  rw [hg]
  exact yxw D r x
theorem yof {D : Nat} {t : TypeId} {fs : Array Field} {n1 n2 : String} {t1 t2 : TypeId} {o1 o2 c1 c2 : Nat} {cs : List Value} {a b : List Lit} (hu : Tryz.prog.underlying t = some (.struct fs)) (hf : fs.toList.map (fun f => (f.name, f.type, f.offset)) = [(n1, t1, o1), (n2, t2, o2)])
  (hn : n1 ≠ "_" ∧ n2 ≠ "_") (hc : Tryz.prog.cellsOf t = cs.length) (h1 : Tryz.prog.cellsOf t1 = c1) (h2 : Tryz.prog.cellsOf t2 = c2) (ha : Tryz.prog.keyLits D t1 ((cs.drop o1).take c1) = some a) (hb : Tryz.prog.keyLits D t2 ((cs.drop o2).take c2) = some b) :
  Tryz.prog.keyLits (D + 1) t cs = some (a ++ b) := by
 obtain ⟨fl⟩ := fs
 match fl, hf with
 | [f1, f2], hf =>
  simp only [List.map_cons, List.map_nil, List.cons.injEq, Prod.mk.injEq, and_true] at hf
  obtain ⟨⟨e1, e2, e3⟩, e4, e5, e6⟩ := hf
  unfold Program.keyLits
  simp only [hu]
  rw [if_pos ⟨hc.symm, by simp [e1, e4, hn.1, hn.2]⟩]
  simp [e2, e3, e5, e6, h1, h2, ha, hb]
theorem yst (D : Nat) (c : Ck) : Tryz.prog.keyLits (D + 3) 37 (cc c).toList = some (z8n c) := by
 refine yof (a := [Lit.int .u64 (c.epoch.toNat : Int)]) (b := z84 c.root) (c1 := 1) (c2 := 32) zir zxg (by decide) (by rw [zc5, Array.length_toList, za1]) (by kernel_rfl) (by kernel_rfl) ?_ ?_
 ·
  rw [show ((cc c).toList.drop 0).take 1 = [num c.epoch] from ?_]
  ·
   exact yus (D + 1) c.epoch
  ·
   rw [zb3]; unfold ccL; simp
 ·
  rw [show ((cc c).toList.drop 1).take 32 = (rc c.root).toList from ?_]
  ·
   exact yta D c.root
  ·
   rw [zb3]; unfold ccL
   simp only [List.cons_append, List.nil_append, List.drop_succ_cons, List.drop_zero]
   exact List.take_of_length_le (by rw [Array.length_toList, zar]; exact Nat.le_refl _)
def ck (c : Ck) : Lit := .string (keyBytes (z8n c))
theorem yxt : (37 : TypeId) < Tryz.prog.types.size := of_decide_eq_true (by kernel_rfl)
theorem yvh : (match Tryz.prog.underlying 37 with | some (.array _ _) | some (.struct _) => true | _ => false) = true := by kernel_rfl
theorem keyed_cc : Keyed Tryz.prog 37 := Keyed.of_law (deep_law_laid yyn (m := 3) (by omega) yxt (by kernel_rfl) yvh)
theorem zn5 (x : Ck) : keyOf Tryz.prog 37 (.agg (cc x)) = some (ck x) := by
 have hkt : Tryz.prog.keyType 37 = true := by kernel_rfl
 have hf : (Value.agg (cc x)).formed Tryz.prog 37 = true := by simp [Value.formed, zc5, za1]
 obtain ⟨D, hD⟩ : ∃ D, Tryz.prog.types.size = D + 2 := ⟨Tryz.prog.types.size - 2, by have : 2 ≤ Tryz.prog.types.size := of_decide_eq_true (by kernel_rfl); omega⟩
 unfold keyOf
 simp only [zir]
 rw [if_pos (by rw [hkt, hf]; rfl), hD]
 show (Tryz.prog.keyLits (D + 3) 37 (cc x).toList).map _ = _
 rw [yst]; rfl
theorem ycj {a b : Ck} (h : cc a = cc b) : a = b := by
 have h1 := zhe a; have h2 := zin a
 rw [h, zhe] at h1
 rw [h, zin] at h2
 refine Ck.ext ?_ (yon h2).symm
 have : (b.epoch.toNat : Int) = (a.epoch.toNat : Int) := by
  injection h1 with h1
  injection h1
 exact UInt64.toNat_inj.1 (by omega)
theorem yum {a b : Ck} (h : ck a = ck b) : a = b := by
 have := keyed_cc.inj (zn5 a) (by rw [h]; exact zn5 b)
 injection this with e
 exact ycj e
theorem z5v (x : Ck) : WideAt.IsKeyLit (ck x) := keyed_cc.key (zn5 x)
end
section
open Go.Maps
def ywe (x : Ed) : List Lit := z8n x.s ++ z8n x.t
def ek (x : Ed) : Lit := .string (keyBytes (ywe x))
theorem yxn : laidOutB Tryz.prog = true := by kernel_rfl
theorem yx8 : (139 : TypeId) < Tryz.prog.types.size := of_decide_eq_true (by kernel_rfl)
theorem yt6 : (match Tryz.prog.underlying 139 with | some (.array _ _) | some (.struct _) => true | _ => false) = true := by kernel_rfl
theorem keyed_ed : Keyed Tryz.prog 139 := Keyed.of_law (deep_law_laid yxn (m := 4) (by omega) yx8 (by kernel_rfl) yt6)
theorem yyc (D : Nat) (x : Ed) : Tryz.prog.keyLits (D + 4) 139 (ed x).toList = some (ywe x) := by
 refine yof (a := z8n x.s) (b := z8n x.t) (c1 := 33) (c2 := 33) zw5 yrq (by decide) (by rw [zv4, Array.length_toList, zj4]) zc5 zc5 ?_ ?_
 ·
  rw [show ((ed x).toList.drop 0).take 33 = (cc x.s).toList from ?_]
  ·
   exact yst D x.s
  ·
   rw [z5g]; unfold edL
   rw [List.drop_zero, List.take_append_of_le_length (by simp [za1])]
   exact List.take_of_length_le (by rw [Array.length_toList, za1]; exact Nat.le_refl _)
 ·
  rw [show ((ed x).toList.drop 33).take 33 = (cc x.t).toList from ?_]
  ·
   exact yst D x.t
  ·
   rw [z5g]; unfold edL
   rw [List.drop_append_of_le_length (by simp [za1]), List.drop_of_length_le (by rw [Array.length_toList, za1]; exact Nat.le_refl _), List.nil_append]
   exact List.take_of_length_le (by rw [Array.length_toList, za1]; exact Nat.le_refl _)
theorem zz5 (x : Ed) : keyOf Tryz.prog 139 (.agg (ed x)) = some (ek x) := by
 have hkt : Tryz.prog.keyType 139 = true := by kernel_rfl
 have hf : (Value.agg (ed x)).formed Tryz.prog 139 = true := by simp [Value.formed, zv4, zj4]
 obtain ⟨D, hD⟩ : ∃ D, Tryz.prog.types.size = D + 3 := ⟨Tryz.prog.types.size - 3, by have : 3 ≤ Tryz.prog.types.size := of_decide_eq_true (by kernel_rfl); omega⟩
 unfold keyOf
 simp only [zw5]
 rw [if_pos (by rw [hkt, hf]; rfl), hD]
 show (Tryz.prog.keyLits (D + 4) 139 (ed x).toList).map _ = _
 rw [yyc]; rfl
theorem yvj {a b : Ed} (h : ed a = ed b) : a = b := by
 have h1 := z5w a; have h2 := z7e a
 rw [h, z5w] at h1
 rw [h, z7e] at h2
 exact Ed.ext (ycj h1).symm (ycj h2).symm
theorem yol {a b : Ed} (h : ek a = ek b) : a = b := by
 have := keyed_ed.inj (zz5 a) (by rw [h]; exact zz5 b)
 injection this with e
 exact yvj e
theorem zxj (x : Ed) : WideAt.IsKeyLit (ek x) := keyed_ed.key (zz5 x)
end
section
open Go.Maps
open Go.RowKit Go.Maps
def edOf (k : Lk) : Ed := ⟨k.s, k.t⟩
def edAt (l : List Lk) (i : Nat) : Ed := edOf (lkAt l i)
def iLk (i : Int) : DataW Unit := .lit (.int .i64 i)
def pcD (l : List Lk) : Nat → DataW Unit
 | 0 => .map []
 | k + 1 => if Maps.has (pcD l k) (ek (edAt l k)) = true then pcD l k else (pcD l k).put (ek (edAt l k)) (iLk k)
section
variable {l : List Lk}
theorem ztw {k : Nat} (h : Maps.has (pcD l k) (ek (edAt l k)) = true) : pcD l (k + 1) = pcD l k := if_pos h
theorem zwf {k : Nat} (h : Maps.has (pcD l k) (ek (edAt l k)) = false) : pcD l (k + 1) = (pcD l k).put (ek (edAt l k)) (iLk k) := if_neg (by rw [h]; exact Bool.false_ne_true)
theorem zks (l : List Lk) : ∀ k, Tidy (pcD l k)
 | 0 => tidy_empty
 | k + 1 => by
  unfold pcD
  split
  ·
   exact zks l k
  ·
   exact (zks l k).put (zxj _) _
theorem zlr (l : List Lk) (r : Ed) : ∀ k, Maps.has (pcD l k) (ek r) = true ↔ ∃ i, i < k ∧ edAt l i = r
 | 0 => ⟨fun h => (by cases h), fun ⟨_, h, _⟩ => absurd h (Nat.not_lt_zero _)⟩
 | k + 1 => by
  have ih := zlr l r k
  by_cases hk : Maps.has (pcD l k) (ek (edAt l k)) = true
  ·
   rw [ztw hk, ih]
   constructor
   ·
    rintro ⟨i, hi, e⟩; exact ⟨i, by omega, e⟩
   ·
    rintro ⟨i, hi, e⟩
    by_cases hik : i = k
    ·
     subst hik
     rw [e] at hk
     exact ih.1 hk
    ·
     exact ⟨i, by omega, e⟩
  ·
   rw [zwf (by simpa using hk)]
   by_cases e : edAt l k = r
   ·
    rw [e, has_put_same (zks l k).isMap (zxj r)]
    exact ⟨fun _ => ⟨k, Nat.lt_succ_self k, e⟩, fun _ => rfl⟩
   ·
    rw [has_put_other (fun h => e (yol h).symm), ih]
    constructor
    ·
     rintro ⟨i, hi, h⟩; exact ⟨i, by omega, h⟩
    ·
     rintro ⟨i, hi, h⟩
     rcases Nat.lt_succ_iff_lt_or_eq.1 hi with h1 | rfl
     ·
      exact ⟨i, h1, h⟩
     ·
      exact absurd h e
theorem yn3 {r : Ed} {i : Nat} (z : DataW Unit) (hr : edAt l i = r) (hf : ∀ j, j < i → edAt l j ≠ r) : ∀ k, i < k → (pcD l k).atKey (ek r) z = iLk i
 | 0, h => absurd h (Nat.not_lt_zero _)
 | k + 1, h => by
  by_cases e : i = k
  ·
   subst e
   have hn : Maps.has (pcD l i) (ek (edAt l i)) = false := by
    rw [← Bool.not_eq_true, hr, zlr]
    rintro ⟨j, hj, e⟩
    exact hf j hj e
   rw [zwf hn, hr]
   exact atKey_put_same (zks l i).isMap (zxj r) _ _
  ·
   have ih := yn3 z hr hf k (by omega)
   by_cases hk : Maps.has (pcD l k) (ek (edAt l k)) = true
   ·
    rw [ztw hk]; exact ih
   ·
    rw [zwf (by simpa using hk), atKey_put_other, ih]
    intro h2
    have e2 := yol h2
    apply hk
    rw [zlr]
    exact ⟨i, by omega, hr.trans e2⟩
theorem zt5 (l : List Lk) : ∀ k, Maps.size (pcD l k) ≤ k
 | 0 => Nat.le_refl _
 | k + 1 => by
  have ih := zt5 l k
  by_cases hk : Maps.has (pcD l k) (ek (edAt l k)) = true
  ·
   rw [ztw hk]; omega
  ·
   rw [zwf (by simpa using hk), size_put (zks l k)]
   split <;> omega
theorem z6x (l : List Lk) : ∀ k, Maps.size (pcD l k) = k ↔ ∀ i, i < k → ∀ j, j < i → edAt l j ≠ edAt l i
 | 0 => ⟨fun _ i h => absurd h (Nat.not_lt_zero _), fun _ => rfl⟩
 | k + 1 => by
  have ih := z6x l k
  have hle := zt5 l k
  by_cases hh : Maps.has (pcD l k) (ek (edAt l k)) = true
  ·
   rw [ztw hh]
   obtain ⟨i, hi, e⟩ := (zlr l _ k).1 hh
   exact ⟨fun h => by omega, fun h => absurd e (h k (Nat.lt_succ_self k) i hi)⟩
  ·
   rw [zwf (by simpa using hh), size_put (zks l k), if_neg hh]
   constructor
   ·
    intro h i hi j hj
    rcases Nat.lt_succ_iff_lt_or_eq.1 hi with h1 | rfl
    ·
     exact ih.1 (by omega) i h1 j hj
    ·
     intro e
     exact hh ((zlr l _ i).2 ⟨j, hj, e⟩)
   ·
    intro h
    have := ih.2 fun i hi j hj => h i (by omega) j hj
    omega
theorem ycf {s t : Ck} {x : Lk} : isK s t x = true ↔ edOf x = ⟨s, t⟩ := by
 rw [zpg]
 exact ⟨fun h => Ed.ext h.1 h.2, fun h => ⟨congrArg Ed.s h, congrArg Ed.t h⟩⟩
def z1e (l : List Lk) (s t : Ck) : Int := if atK l s t < l.length then (atK l s t : Int) else 0
theorem ym0 (l : List Lk) (s t : Ck) : Maps.has (pcD l l.length) (ek ⟨s, t⟩) = decide (atK l s t < l.length) ∧ (pcD l l.length).atKey (ek ⟨s, t⟩) (iLk 0) = iLk (z1e l s t) := by
 by_cases h : atK l s t < l.length
 ·
  rw [decide_eq_true h, zlr]
  have h1 := ycf.1 (zrl h)
  refine ⟨⟨_, h, h1⟩, ?_⟩
  unfold z1e
  rw [if_pos h]
  exact yn3 _ h1 (fun j hj e => by have := znv hj; rw [ycf.2 e] at this; cases this) _ h
 ·
  have hn : Maps.has (pcD l l.length) (ek ⟨s, t⟩) = false := by
   rw [← Bool.not_eq_true, zlr]
   rintro ⟨i, hi, e⟩
   have hk := ycf.2 e
   have : atK l s t ≤ i := by
    rcases Nat.lt_or_ge i (atK l s t) with h2 | h2
    ·
     rw [znv h2] at hk; cases hk
    ·
     exact h2
   omega
  refine ⟨by rw [hn, decide_eq_false h], ?_⟩
  unfold z1e
  rw [if_neg h]
  exact atKey_of_not_has hn _
theorem yiz (l : List Lk) : MayK l l.length ↔ (∀ i, i < l.length → okK (lkAt l i)) ∧ Maps.size (pcD l l.length) = l.length := by
 rw [z6x]
 have he : ∀ i k, oneB (lkAt l i) (lkAt l k) = false ↔ edAt l k ≠ edAt l i := fun i k => by
  rw [← Bool.not_eq_true, zm2]
  exact not_congr ⟨fun h => Ed.ext h.1.symm h.2.symm, fun h => ⟨(congrArg Ed.s h).symm, (congrArg Ed.t h).symm⟩⟩
 unfold MayK
 constructor
 ·
  intro h
  exact ⟨fun i hi => (h i hi).1, fun i hi j hj => (he i j).1 ((h i hi).2 j hj)⟩
 ·
  intro h i hi
  exact ⟨h.1 i hi, fun k hk => (he i k).2 (h.2 i hi k hk)⟩
end
end
open Go.RowKit
section
variable {P : Program} {ops : Array Oper} {E : List Nat} {L : World → World → Prop} {W : World} {Q : Exit → Act → World → Prop} {α : Type} {F : Lie α}
end
theorem z7p {B : Nat} {W : World} {b o n : Nat} {c : Array Value} (h : ldA W (.pointer (some ⟨b, o, none⟩)) n = some c) (hb : b < B) (p : WdB B W) : ldA p.w (.pointer (some ⟨b, o, none⟩)) n = some c := (zrg p.h b o n hb).trans h
end Go.Proofs.YtmihlihlpdkdcaaGreat
