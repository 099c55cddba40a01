import Derived.Test.YtkalofboioffiaaGreatQ35
import Derived.Laws.Externs
namespace Go.Proofs.YtkalofboioffiaaGreat
open Go.RowKit
set_option maxRecDepth 200000
set_option maxHeartbeats 64000000
theorem yd0 (n : Int) (w : World) :
  Calls Tryz.prog 58 #[.int .i64 n] w (VoOk (newV n) (zhy n) w) := by
 obtain ⟨W0, hW0⟩ : ∃ W0, W0 = w.alloc (.cells (vo zvo) 29) := ⟨_, rfl⟩
 have HB : Hid (Below w.heap.size w W0) := by rw [hW0]; exact below1
 have M0 : Hid (W0.heap[w.heap.size]? = some (.cells (vo zvo) 29 (0, 0))) := by rw [hW0]; exact heap_alloc_last w _
 have HW := Lib.hid hW0
 have HF := Lib.hid (ydx n W0)
 obtain ⟨i, hi, hz0, hz1, hz2⟩ := info_parts yaw
 clear hW0
 by_cases hn : 1 ≤ n ∧ n ≤ 8
 ·
  obtain ⟨n, rfl⟩ : ∃ n' : Nat, n = n' := ⟨n.toNat, by omega⟩
  have e : zhy (n : Int) = true := decide_eq_true hn
  have HV : Hid (newV (n : Int) = ⟨List.replicate n zlt, 0⟩) := by unfold newV; rw [e, if_pos rfl]; exact Lib.hid rfl
  rw [e] at HF ⊢
  have HN : Hid (n ≤ 8) := by show n ≤ 8; omega
  have n0 : (0 : Int) ≤ (n : Int) := by omega
  clear hn e
  go_enter Tryz.func58, Tryz.ntmps58
  go_upto_region 1 with fail
  rw [← HW.out]
  go_wp2_with fail
  refine HF.out.mono ?_
  rintro e w1 ⟨rfl, g⟩
  have B1 := Lib.hid (zac HB.out g)
  have M1 := Lib.hid (zab g M0.out)
  clear g
  go_wp2_with (at_make; refine wpList_make_full _ rfl _ _ 26 rfl w1.heap.size 115 i _ 34 Tryz.underlying26 hi hz0 hz1 .i64 .i64 _ _ n rfl rfl rfl rfl (by rw [hz2]; have := HN.out; omega) (by unfold maxLen; have := HN.out; omega) (Nat.le_refl _) ?_; intro wz hown hgrow; have BZ : Hid (Below w1.heap.size w1 wz) := (Below.refl _ _).grown hgrow (Nat.le_refl _) (fun k hk => by cases hk); have OZ := Lib.hid hown; have MZ := Lib.hid (zab BZ.out M1.out); have y1 := za0 MZ.out (zbv _); clear hown hgrow)
  have hS : SlE Elt wz (.slice (some ⟨w1.heap.size, 0, none⟩) n n) (List.replicate n zlt) := by
   have h := OZ.out
   rw [ygv n HN.out] at h
   have : OwnE Elt wz w1.heap.size (.slice (some ⟨w1.heap.size, 0, none⟩) n n) (List.replicate n zlt) := by
    unfold OwnE
    rw [List.length_replicate]
    exact h
   exact zat this
  have hF := zc4 MZ.out (r := vo ⟨⟨some ⟨w1.heap.size, 0, none⟩, n, n⟩, 0⟩) (by rw [zbv, zbv])
  have hne : w.heap.size ≠ w1.heap.size := by have := (Array.getElem?_eq_some_iff.1 M1.out).1; omega
  refine bodyPost_ret (v := .tuple #[.agg (vo ⟨⟨some ⟨w1.heap.size, 0, none⟩, n, n⟩, 0⟩), .bool true]) (zbb Tryz.isAgg29 Tryz.sizeOf29 _ 2 3 rfl _ _ _ _ _ rfl rfl (zag hF (zbv _))) rfl ⟨⟨some ⟨w1.heap.size, 0, none⟩, n, n⟩, by rw [HV.out], by rw [HV.out]; exact zd6 hS (by rw [zl0]; exact Nat.le_refl _) (fun b _ hb => zdf (by have hb' : w1.heap.size = b := Option.some.inj hb; omega)), zap (zac B1.out BZ.out) (Nat.le_refl _)⟩
 ·
  have e : zhy n = false := decide_eq_false hn
  have HV : Hid (newV n = ⟨[], 0⟩) := by unfold newV; rw [e, if_neg Bool.false_ne_true]; exact Lib.hid rfl
  rw [e] at HF ⊢
  clear hn e hi hz0 hz1 hz2
  go_enter Tryz.func58, Tryz.ntmps58
  go_upto_region 1 with fail
  rw [← HW.out]
  go_wp2_with fail
  refine HF.out.mono ?_
  rintro e w1 ⟨rfl, g⟩
  have B1 := Lib.hid (zac HB.out g)
  have M1 := Lib.hid (zab g M0.out)
  have y1 := za0 M1.out (zbv _)
  clear g
  go_wp2_with fail
  exact bodyPost_ret (v := .tuple #[.agg (vo zvo), .bool false]) (zbb Tryz.isAgg29 Tryz.sizeOf29 _ 2 3 rfl _ _ _ _ _ rfl rfl (zag (zc4 M1.out rfl) (zbv _))) rfl ⟨⟨none, 0, 0⟩, by rw [HV.out]; rfl, by rw [HV.out]; exact zbr _ _ _ _, zap B1.out (Nat.le_refl _)⟩
theorem z3g (p : Option Addr) (n cap : Nat) (w : World) : (binOp .eql 26 (.slice p n cap) (.slice none 0 0)).run Tryz.prog w = .ok (.bool p.isNone) w := by
 have h := run_equalIn_slice_nil (P := Tryz.prog) w 9999 26 115 p n cap Tryz.underlying26
 simp [binOp, Op.equal, Op.maxDepth, h]
theorem KltB : zjp Tryz.prog Elt 26 48 := ⟨Tryz.underlying26, .agg (lt zlt), yaw, by show ((lt zlt)).size = _; exact zqj _⟩
def yox (l : List Lt) (w : World) (e : Ending) (w' : World) : Prop := ∃ v, e = .returned v ∧ OwnE Elt w' w.heap.size v l ∧ Below w.heap.size w w'
theorem z9j (p : Option Addr) (n cap : Nat) (l : List Lt) (w : World) (h : SlE Elt w (.slice p n cap) l) (hl : l.length = n) (hn : n * 48 ≤ 140737488355328) :
  Calls Tryz.prog 134 #[.slice p n cap] w (yox l w) := by
 have HS := Lib.hid h
 have HL := Lib.hid hl
 have HN := Lib.hid hn
 cases p with
 | none =>
  have hn0 : l = [] := by
   obtain ⟨p, cap', e, _, h⟩ := h
   injection e with e
   subst e
   exact h.resolve_right (fun ⟨_, _, e, _⟩ => by cases e)
  have e : n = 0 := by rw [← hl, hn0]; rfl
  subst hn0 e
  clear HS h hl hn
  have he : ∀ w, (binOp .eql 26 (.slice none 0 cap) (.slice none 0 0)).run Tryz.prog w = .ok (.bool true) w := fun w => z3g none 0 cap w
  go_enter Tryz.func134, Tryz.ntmps134
  go_wp2_with fail
  go_ret
  exact ⟨_, rfl, zb3 _ _ _, Below.refl _ _⟩
 | some a =>
  have HO : Hid (OwnE Elt (w.alloc (.cells #[] 115)) w.heap.size (.slice (some ⟨w.heap.size, 0, none⟩) 0 0) []) := zjc (E := Elt) w [] 0 rfl (by simp [maxLen]) #[] rfl _ rfl
  have HB : Hid (Below w.heap.size w (w.alloc (.cells #[] 115))) := below1
  clear h hl hn
  have he : ∀ w, (binOp .eql 26 (.slice (some a) n cap) (.slice none 0 0)).run Tryz.prog w = .ok (.bool false) w := fun w => z3g (some a) n cap w
  go_enter Tryz.func134, Tryz.ntmps134
  go_wp2_with (at_builtin; refine zc1 KltB _ rfl (.tmp 5) (.tmp 6) rfl w.heap.size _ [] rfl HO.out _ l rfl (zad HB.out HS.out) (by have := HL.out; have := HN.out; simp [maxLen]; omega) (by have := HL.out; have := HN.out; simp; omega) (by simp) ?_; intro v2 w2 ho2 hg2)
  go_ret
  exact ⟨_, rfl, by simpa using ho2, HB.out.trans (hg2.own HO.out (by simp))⟩
theorem z9i (v : Value) (l : List Lt) (w : World) (h : SlE Elt w v l) (hn : l.length * 48 ≤ 140737488355328) :
  Calls Tryz.prog 134 #[v] w (yox l w) := by
 have k := h
 obtain ⟨p, cl, rfl, _⟩ := zar h
 exact z9j p _ cl l w k rfl hn
def ysq (v : Vt) (w : World) (e : Ending) (w' : World) : Prop := ∃ s : SlV, e = .returned (.agg (vo ⟨s, v.out⟩)) ∧ OwnE Elt w' w.heap.size (sv s) v.l ∧ Below w.heap.size w w'
theorem zho {α : Type} {E : Lie α} {w : World} {base : Nat} {v : Value} {l : List α} (h : OwnE E w base v l) : ∃ s : SlV, v = sv s := by
 obtain ⟨p, c, rfl, _⟩ := zar (zat h)
 exact ⟨⟨p, _, c⟩, rfl⟩
theorem z8h (s : SlV) (v : Vt) (w : World) (h : SlE Elt w (sv s) v.l) (hn : v.l.length ≤ 1000) :
  Calls Tryz.prog 190 #[.agg (vo ⟨s, v.out⟩)] w (ysq v w) := by
 obtain ⟨W0, hW0⟩ : ∃ W0, W0 = (w.alloc (.cells (vo ⟨s, v.out⟩) 29)).alloc (.cells (vo zvo) 29) := ⟨_, rfl⟩
 obtain ⟨hB, hM, hR, hZ⟩ := zdb w _ _ _ _ W0 hW0
 have HC := Lib.hid (z9i (sv s) v.l W0 (zad hB h) (by omega))
 have B0 := Lib.hid hB
 have M0 : Hid (W0.heap[w.heap.size]? = some (.cells (vo ⟨s, v.out⟩) 29 (0, 0))) := hM
 have R0 : Hid (W0.heap[w.heap.size + 1]? = some (.cells (vo zvo) 29 (0, 0))) := hR
 have HW := Lib.hid hW0
 have Z0 : Hid (W0.heap.size = w.heap.size + 2) := hZ
 obtain ⟨z0, z1, z2, zl⟩ := zb5 hM
 dsimp only at z0
 clear hB hM hR hW0 h hn hZ
 go_enter Tryz.func190, Tryz.ntmps190
 go_upto_region 1 with fail
 rw [← HW.out]
 go_wp2_with fail
 refine HC.out.mono ?_
 rintro e w1 ⟨y, rfl, ho, g⟩
 obtain ⟨⟨p2, n2, c2⟩, rfl⟩ := zho ho
 rw [za7] at ho ⊢
 have O1 := Lib.hid ho
 have B1 := Lib.hid (zac B0.out g)
 have hM1 := zab g M0.out
 have hR1 := zab g R0.out
 have f0 := frozen_of_row w1 w.heap.size 0 _ _ hM1
 have hM2 : (w1.setCell ⟨w.heap.size, 0, none⟩ (.slice p2 n2 c2)).heap[w.heap.size]? = some (.cells (vo ⟨⟨p2, n2, c2⟩, v.out⟩) 29 (0, 0)) := by
  have := za4 hM1 0 (.slice p2 n2 c2)
  rwa [ydv] at this
 have hR2 : (w1.setCell ⟨w.heap.size, 0, none⟩ (.slice p2 n2 c2)).heap[w.heap.size + 1]? = some (.cells (vo zvo) 29 (0, 0)) := by
  rw [Below.heap_setCell _ _ _ _ (show w.heap.size + 1 ≠ w.heap.size by omega)]; exact hR1
 have hO2 : OwnE Elt (w1.setCell ⟨w.heap.size, 0, none⟩ (.slice p2 n2 c2)) W0.heap.size (.slice p2 n2 c2) v.l := zos ho (by rw [Z0.out]; omega) _
 have hB2 : Below w.heap.size w (w1.setCell ⟨w.heap.size, 0, none⟩ (.slice p2 n2 c2)) := B1.out.setCell (p := ⟨w.heap.size, 0, none⟩) (Nat.le_refl _) _
 have M2 := Lib.hid hM2
 have R2 := Lib.hid hR2
 have O2 := Lib.hid hO2
 have B2 := Lib.hid hB2
 obtain ⟨y0, y1, y2, yl⟩ := zb5 hM1
 dsimp only at y0
 clear z0 z1 z2 zl ho g hM1 hR1 hM2 hR2 hO2 hB2
 go_upto_region 2 with fail
 obtain ⟨w2, hw2⟩ : ∃ w2, w2 = w1.setCell ⟨w.heap.size, 0, none⟩ (.slice p2 n2 c2) := ⟨_, rfl⟩
 rw [← hw2] at M2 R2 O2 B2 ⊢
 have k1 := (zb5 M2.out).2.2.1
 have k2 := za0 R2.out (zbv _)
 clear hw2 y0 y1 y2 yl f0
 go_wp2_with fail
 exact bodyPost_ret (zax Tryz.isAgg29 Tryz.sizeOf29 _ 2 rfl _ _ _ _ rfl (zag (zc4 R2.out (by rw [zbv, zbv])) (zbv _))) rfl
  ⟨⟨p2, n2, c2⟩, rfl, zbf (zdp O2.out (by rw [Z0.out]; omega)) (by rw [Z0.out]; omega), zap B2.out (by omega)⟩
open Go.RowKit
theorem yhf {α : Type} {E : Lie α} {w : World} {base g : Nat} {v : Value} {l : List α} {c : Array Value} {t : TypeId} {fr : Nat × Nat} (h : OwnE E w base v l) (hg : w.heap[g]? = some (.cells c t fr)) (ht : t ≠ E.t) : v.ownBlock ≠ some g := by
 intro e
 rcases h.2 with ⟨rfl, _⟩ | ⟨g', cap, cur, rfl, _, hg', _⟩
 ·
  cases e
 ·
  have : g' = g := Option.some.inj e
  subst this
  rw [hg] at hg'
  injection hg' with hg'
  injection hg' with _ e2
  exact ht e2
structure Ow (w W : World) (R O : Nat) (s : SlV) (x : Vt) : Prop where
 g : Below w.heap.size w W
 r : W.heap[R]? = some (.cells (vo zvo) 29 (0, 0))
 o : W.heap[O]? = some (.cells (vo ⟨s, x.out⟩) 29 (0, 0))
 own : OwnE Elt W (R + 1) (sv s) x.l
 lo : R < O
 lr : w.heap.size ≤ R
section
variable {w W W' : World} {R O : Nat} {s : SlV} {x : Vt}
theorem Ow.keep (h : Ow w W R O s x) (g : Below W.heap.size W W') : Ow w W' R O s x := ⟨zac h.g g, zab g h.r, zab g h.o, zam g h.own, h.lo, h.lr⟩
theorem yd1 : 29 ≠ Elt.t := by decide
theorem Ow.elem {g n c : Nat} (h : Ow w W R O ⟨some ⟨g, 0, none⟩, n, c⟩ x) (hn : x.l.length = n) {j : Nat} (hj : j < n) (y : Lt) : Ow w (stA W (.pointer (some ⟨g, j * 34, none⟩)) (.agg (lt y))) R O ⟨some ⟨g, 0, none⟩, n, c⟩ ⟨x.l.set j y, x.out⟩ := by
 have hg : R + 1 ≤ g := (h.own.lt g rfl).1
 have hO : O ≠ g := fun e => yhf h.own h.o yd1 (by rw [e]; rfl)
 exact ⟨zap h.g (by have := h.lr; omega), (zdf (by omega)).trans h.r, (zdf hO).trans h.o, zvr h.own hn hj y (zvi y), h.lo, h.lr⟩
theorem Ow.wr {g n c : Nat} (h : Ow w W R O ⟨some ⟨g, 0, none⟩, n, c⟩ x) (hn : x.l.length = n) {j : Nat} (hj : j < n) : wrA W (.pointer (some ⟨g, j * 34, none⟩)) 34 = true := by
 have := zqz h.own hn hj
 rwa [Nat.zero_add] at this
theorem yqe {p : Nat} {W1 : World} (g : Below w.heap.size w W) (hr : W.heap[R]? = some (.cells (vo zvo) 29 (0, 0))) (hR : W.heap.size = R + 1) (hlr : w.heap.size ≤ R) (ho : OwnE Elt W1 W.heap.size (sv s) x.l) (h1 : Below W.heap.size W W1) (hW : W' = W1.alloc (.cells (vo ⟨s, x.out⟩) 29)) (hp : p = W1.heap.size) : Ow w W' R p s x := by
 subst hW hp
 have hs := h1.size
 exact ⟨zac (zac g h1) below1, zab (zac h1 below1) hr, heap_alloc_last W1 _, zam below1 (by rw [← hR]; exact ho), by omega, hlr⟩
end
def zo5 (a b : Nat) : Bool := decide (a + b < 18446744073709551616)
def addV (a b : Nat) : Nat := if a + b < 18446744073709551616 then a + b else 0
def zrz (l : List Nd) (f : Nat → Nat) (m i : Nat) : Nat := f i + sumF (fun c => if m ≤ c ∧ (nd l c).parent = (i : Int) then subT l f c else 0) l.length
theorem yl3 {b : List UInt64} {k j x : Nat} (hk : k < b.length) (hx : x < 18446744073709551616) : fn (b.set k (UInt64.ofNat x)) j = if j = k then x else fn b j := by
 unfold fn
 rw [List.getD_eq_getElem?_getD, List.getElem?_set]
 by_cases h : k = j
 ·
  subst h
  rw [if_pos rfl, if_pos hk, if_pos rfl]
  show (UInt64.ofNat x).toNat = x
  rw [UInt64.toNat_ofNat', Nat.mod_eq_of_lt hx]
 ·
  rw [if_neg h, if_neg (fun e => h e.symm), List.getD_eq_getElem?_getD]
section
variable {l : List Nd} {f : Nat → Nat}
theorem z51 (i : Nat) : zrz l f l.length i = f i := by
 unfold zrz
 rw [zbu (g := fun _ => 0) _ (fun k hk => by rw [if_neg]; rintro ⟨h, _⟩; omega), zey, Nat.add_zero]
theorem zp0 (h : MayT l) {i m : Nat} (hi : i < l.length) (hm : m ≤ i + 1) : zrz l f m i = subT l f i := by
 rw [z4o h f hi]
 unfold zrz
 congr 1
 refine zbu _ fun c hc => ?_
 by_cases e : (nd l c).parent = (i : Int)
 ·
  rw [if_pos e, if_pos]
  refine ⟨?_, e⟩
  by_cases h0 : c = 0
  ·
   subst h0; rw [h.first] at e; omega
  ·
   obtain ⟨h1, h2, _⟩ := h.par (Nat.pos_of_ne_zero h0) hc
   rw [h1] at e
   omega
 ·
  rw [if_neg e, if_neg (fun x => e x.2)]
theorem yl7 (h : MayT l) {i : Nat} (m : Nat) (hi : i < l.length) : zrz l f m i ≤ subT l f i := by
 rw [z4o h f hi]
 unfold zrz
 refine Nat.add_le_add_left (z16 _ fun c _ => ?_) _
 by_cases e : (nd l c).parent = (i : Int)
 ·
  rw [if_pos e]; split <;> omega
 ·
  rw [if_neg (fun x => e x.2)]; omega
theorem zp1 {m : Nat} (hm : m < l.length) (i : Nat) : zrz l f m i = zrz l f (m + 1) i + (if (nd l m).parent = (i : Int) then subT l f m else 0) := by
 have e1 : (if (nd l m).parent = (i : Int) then subT l f m else 0) = sumF (fun c => if c = m ∧ (nd l m).parent = (i : Int) then subT l f m else 0) l.length := by
  rw [zwd (fun c => if c = m ∧ (nd l m).parent = (i : Int) then subT l f m else 0) hm (fun k _ hk => by rw [if_neg]; rintro ⟨h, _⟩; exact hk h)]
  simp
 rw [e1]
 unfold zrz
 rw [Nat.add_assoc, ← zl3]
 congr 1
 refine zbu _ fun c _ => ?_
 by_cases hc : c = m
 ·
  subst hc
  have h1 : ¬ c + 1 ≤ c := by omega
  by_cases e : (nd l c).parent = (i : Int)
  ·
   simp [e, h1]
  ·
   simp [e]
 ·
  have : (m ≤ c) = (m + 1 ≤ c) := by rw [eq_iff_iff]; omega
  simp [hc, this]
def ztz (l : List Nd) (a : List UInt64) (m : Nat) (c : List UInt64) : Prop := c.length = l.length ∧ ∀ i, i < l.length → fn c i = zrz l (fn a) m i
variable {a c : List UInt64}
theorem z0s (h : a.length = l.length) : ztz l a l.length a := ⟨h, fun i _ => (z51 i).symm⟩
theorem z5z (hm : MayT l) (h : ztz l a 1 c) : ztz l a 0 c := ⟨h.1, fun i hi => by
 rw [h.2 i hi, zp1 hm.pos i, hm.first, if_neg (by omega), Nat.add_zero]⟩
theorem z5y (hm : MayT l) {m : Nat} (h0 : 0 < m) (hl : m < l.length) (h : ztz l a (m + 1) c) (hf : fn c (up l m) + fn c m < 18446744073709551616) : ztz l a m (c.set (up l m) (UInt64.ofNat (fn c (up l m) + fn c m))) := by
 obtain ⟨e1, e2, _⟩ := hm.par h0 hl
 refine ⟨by rw [List.length_set, h.1], fun i hi => ?_⟩
 rw [yl3 (by rw [h.1]; omega) hf, zp1 hl i, e1, h.2 m hl, h.2 (up l m) (by omega), zp0 hm hl (Nat.le_refl _)]
 by_cases e : i = up l m
 ·
  rw [if_pos e, if_pos (by rw [e]), e]
 ·
  rw [if_neg e, if_neg (by omega), Nat.add_zero, h.2 i hi]
theorem yap (hm : MayT l) {m : Nat} (h0 : 0 < m) (hl : m < l.length) (h : ztz l a (m + 1) c) (hf : ¬ fn c (up l m) + fn c m < 18446744073709551616) : zh5 l a = false := by
 obtain ⟨e1, e2, _⟩ := hm.par h0 hl
 rw [← Bool.not_eq_true]
 intro e
 have h1 := (ziw.1 e).2.2 (up l m) (by omega)
 have h2 := yl7 (f := fn a) hm m (show up l m < l.length by omega)
 rw [zp1 hl, e1, if_pos rfl] at h2
 rw [h.2 m hl, h.2 (up l m) (by omega), zp0 hm hl (Nat.le_refl _)] at hf
 omega
theorem yao (hm : MayT l) (ha : a.length = l.length) (h : ztz l a 0 c) : zh5 l a = true ∧ c = subL l a := by
 have e : ∀ i, i < l.length → fn c i = subT l (fn a) i := fun i hi => by rw [h.2 i hi, zp0 hm hi (Nat.zero_le _)]
 have ok : zh5 l a = true := ziw.2 ⟨hm, ha, fun i hi => by rw [← e i hi]; exact yl2 _ _⟩
 exact ⟨ok, yal (by rw [h.1, zwc ok]) fun i hi => by rw [zwc ok] at hi; rw [e i hi, ydh ok hi]⟩
end
theorem z8v (x y : Nat) (w : World) : (callFunc 198 #[.int .u64 (x : Int), .int .u64 (y : Int), .int .u64 0]).run Tryz.prog w =
  .ok (.value (.tuple #[.int .u64 (((x + y) % 18446744073709551616 : Nat) : Int), .int .u64 (((x + y) / 18446744073709551616 : Nat) : Int)])) w := by
 rw [run_callFunc_extern Tryz.func198 (by kernel_rfl) (by kernel_rfl) (by kernel_rfl) (e := add64Entry) (by kernel_rfl), run_add64 (x : Int) (y : Int) 0 (by omega) (by omega) (by omega) (by omega)]
 simp [Result.andThen]
theorem yik (n : Int) (b : Bool) (w : World) :
  Calls Tryz.prog 178 #[.agg #[.int .u64 n, .bool b]] w fun e w' => e = .returned (.tuple #[.int .u64 (if b = true then n else 0), .bool b]) ∧ Below w.heap.size w w' := by
 cases b
 ·
  go_enter Tryz.func178, Tryz.ntmps178
  go_wp2
  go_ret2
  exact ⟨rfl, (Below.refl _ _).alloc (Nat.le_refl _) _⟩
 ·
  go_enter Tryz.func178, Tryz.ntmps178
  go_wp2
  go_ret2
  exact ⟨rfl, (Below.refl _ _).alloc (Nat.le_refl _) _⟩
theorem z6q (l : Int) (w : World) :
  Calls Tryz.prog 199 #[.agg #[.int .u64 0, .int .u64 l]] w fun e w' => e = .returned (.agg #[.int .u64 l, .bool true]) ∧ ∃ c1 c2, w' = (w.alloc (.cells c1 239)).alloc (.cells c2 209) := by
 go_enter Tryz.func199, Tryz.ntmps199
 go_wp2
 exact bodyPost_ret (v := .agg #[.int .u64 l, .bool true]) (by simp [results, Tryz.results199, go_sem]) rfl ⟨rfl, _, _, rfl⟩
theorem ybt (h l : Int) (hh : (h == 0) = false) (w : World) :
  Calls Tryz.prog 199 #[.agg #[.int .u64 h, .int .u64 l]] w fun e w' => e = .returned (.agg #[.int .u64 l, .bool false]) ∧ ∃ c1 c2, w' = (w.alloc (.cells c1 239)).alloc (.cells c2 209) := by
 go_enter Tryz.func199, Tryz.ntmps199
 go_wp2
 exact bodyPost_ret (v := .agg #[.int .u64 l, .bool false]) (by simp [results, Tryz.results199, go_sem]) rfl ⟨rfl, _, _, rfl⟩
theorem yqd (a b : Nat) (ha : a < 18446744073709551616) (hb : b < 18446744073709551616) (w : World) :
  Calls Tryz.prog 177 #[.int .u64 (a : Int), .int .u64 (b : Int)] w fun e w' => e = .returned (.agg #[.int .u64 (((a + b) % 18446744073709551616 : Nat) : Int), .bool (zo5 a b)]) ∧ Below w.heap.size w w' := by
 have e1 := fun w : World => z8v a b w
 obtain ⟨lo, hlo⟩ : ∃ x, x = (a + b) % 18446744073709551616 := ⟨_, rfl⟩
 obtain ⟨hi, hhi⟩ : ∃ x, x = (a + b) / 18446744073709551616 := ⟨_, rfl⟩
 rw [← hlo] at e1 ⊢
 rw [← hhi] at e1
 by_cases h : a + b < 18446744073709551616
 ·
  rw [show zo5 a b = true from decide_eq_true h]
  obtain rfl : hi = 0 := by omega
  clear h ha hb hlo hhi
  go_enter Tryz.func177, Tryz.ntmps177
  go_wp2_with fail
  refine (z6q _ _).mono ?_
  rintro e w1 ⟨rfl, c1, c2, rfl⟩
  go_wp2_with fail
  exact bodyPost_ret (v := .agg #[.int .u64 (lo : Int), .bool true]) (by simp [results, Tryz.results177, go_sem]) rfl ⟨rfl, zac (zac below1 below1) below1⟩
 ·
  rw [show zo5 a b = false from decide_eq_false h]
  have t0 : ((hi : Int) == 0) = false := beq_eq_false_iff_ne.2 (by omega)
  have T0 := Lib.hid t0
  clear h ha hb hlo hhi t0
  go_enter Tryz.func177, Tryz.ntmps177
  go_wp2_with fail
  refine (ybt _ _ T0.out _).mono ?_
  rintro e w1 ⟨rfl, c1, c2, rfl⟩
  go_wp2_with fail
  exact bodyPost_ret (v := .agg #[.int .u64 (lo : Int), .bool false]) (by simp [results, Tryz.results177, go_sem]) rfl ⟨rfl, zac (zac below1 below1) below1⟩
theorem yqc (a b : Nat) (ha : a < 18446744073709551616) (hb : b < 18446744073709551616) (w : World) :
  Calls Tryz.prog 152 #[.int .u64 (a : Int), .int .u64 (b : Int)] w fun e w' => e = .returned (.tuple #[.int .u64 (addV a b : Int), .bool (zo5 a b)]) ∧ Below w.heap.size w w' := by
 have c := Lib.hid (yqd a b ha hb w)
 have d := Lib.hid (yik (((a + b) % 18446744073709551616 : Nat) : Int) (zo5 a b))
 have e1 : (if zo5 a b = true then (((a + b) % 18446744073709551616 : Nat) : Int) else 0) = (addV a b : Int) := by
  unfold zo5 addV
  by_cases h : a + b < 18446744073709551616
  ·
   rw [if_pos h, if_pos (decide_eq_true h)]; omega
  ·
   rw [if_neg h, if_neg (by rw [decide_eq_true_iff]; exact h)]; rfl
 rw [e1] at d
 obtain ⟨m, hm⟩ : ∃ m, m = (a + b) % 18446744073709551616 := ⟨_, rfl⟩
 obtain ⟨v, hv⟩ : ∃ v, v = addV a b := ⟨_, rfl⟩
 obtain ⟨ok, hok⟩ : ∃ x, x = zo5 a b := ⟨_, rfl⟩
 rw [← hm, ← hok] at c
 rw [← hm, ← hv, ← hok] at d
 rw [← hv, ← hok]
 clear e1 ha hb hm hv hok
 go_enter Tryz.func152, Tryz.ntmps152
 go_wp2_with fail
 refine c.out.mono ?_
 rintro e w1 ⟨rfl, h1⟩
 go_wp2_with fail
 refine (d.out w1).mono ?_
 rintro e w2 ⟨rfl, h2⟩
 go_wp2_with fail
 go_ret2
 exact ⟨rfl, zac h1 h2⟩
theorem zus : ∀ args w, (callFunc 152 args).run Tryz.prog w = .ok (.enter 152 args) w := zbe Tryz.func152 (by kernel_rfl) (by kernel_rfl)
structure Sm where
 t : Tr
 l : SlV
def smL (x : Sm) : List Value := (tr x.t).toList ++ ([sv x.l])
def sm (x : Sm) : Array Value := (smL x).toArray
theorem ynz (x : Sm) : (sm x).toList = smL x := rfl
theorem yqq (x : Sm) : (smL x).length = 2 := by simp [smL, za9]
theorem zm8 (x : Sm) : (sm x).size = 2 := by rw [← Array.length_toList, ynz, yqq]
theorem yqr (x : Sm) : ∀ v ∈ smL x, v.oneCell' = true := by
 intro v hv
 unfold smL at hv
 simp only [List.mem_append, List.mem_singleton] at hv
 rcases hv with hv | rfl
 ·
  exact z4r _ v (by rw [zgq] at hv; exact hv)
 ·
  rfl
@[go_sem] theorem yt3 (x : Sm) : okA 2 (.agg (sm x)) = true := by
 show ((sm x).size == 2 && (sm x).all (·.oneCell')) = true
 rw [show (sm x).all (·.oneCell') = true from zea (yqr x), zm8]; rfl
def zsm : Sm := ⟨ztr, ⟨none, 0, 0⟩⟩
theorem yeg (w : World) : (zeroValue 157).run Tryz.prog w = .ok (.agg (sm zsm)) w := by kernel_rfl
@[go_sem ↓] theorem yta (ρ : Operand → Value) (dst : Option Tmp) (x : Operand) (ty : TypeId) (pos : String) (after : Array Edge) (guard : Option (Nat × Bool)) (w : World) :
  (execOp ρ { dst, op := .load 157 x, type := ty, pos, after, guard }).run Tryz.prog w = zkh (ldA w (ρ x) 2) w (zbn Tryz.prog ρ { dst, op := .load 157 x, type := ty, pos, after, guard } w) :=
 zb2 Tryz.isAgg157 Tryz.sizeOf157 ρ dst x ty pos after guard w
@[go_sem ↓] theorem ysf (ρ : Operand → Value) (dst : Option Tmp) (x y : Operand) (ty : TypeId) (pos : String) (after : Array Edge) (guard : Option (Nat × Bool)) (w : World) :
  (execOp ρ { dst, op := .store 157 x y, type := ty, pos, after, guard }).run Tryz.prog w = zjo (wrA w (ρ x) 2 && okA 2 (ρ y)) (stA w (ρ x) (ρ y)) (zbn Tryz.prog ρ { dst, op := .store 157 x y, type := ty, pos, after, guard } w) :=
 zbm Tryz.sizeOf157 ρ dst x y ty pos after guard w
@[go_sem ↓] theorem yrq (ρ : Operand → Value) (dst : Option Tmp) (ty : TypeId) (pos : String) (after : Array Edge) (guard : Option (Nat × Bool)) (w : World) :
  (execOp ρ { dst, op := .alloc 157, type := ty, pos, after, guard }).run Tryz.prog w = .ok (.value (.pointer (some ⟨w.heap.size, 0, none⟩))) (w.alloc (.cells (sm zsm) 157)) := by
 unfold execOp
 simp only [Instr.alloc, Sem.run_bind, yeg, Result.andThen_ok]
 rfl
def places_sm : List (Nat × Nat) := [(0, 1), (1, 1)]
theorem yah : ∀ w : World, ((Tryz.prog.fieldsOf 157).mapM (m := Sem) fun f => do pure (f.offset, ← Go.sizeOf f.type)).run Tryz.prog w = .ok places_sm.toArray w := fun _ => by kernel_rfl
theorem yis : Tryz.prog.underlying 157 = some (.struct (Tryz.prog.fieldsOf 157)) := by kernel_rfl
@[go_sem ↓] theorem yr1 (ρ : Operand → Value) (dst : Option Tmp) (p : Nat × Operand) (ps : List (Nat × Operand)) (ty : TypeId) (pos : String) (after : Array Edge) (guard : Option (Nat × Bool)) (w : World) :
  (execOp ρ { dst, op := .build 157 (p :: ps).toArray, type := ty, pos, after, guard }).run Tryz.prog w = zg7 ((zh2 places_sm (sm zsm) ((p.1, ρ p.2) :: ps.map fun p => (p.1, ρ p.2))).map .agg) w (zbn Tryz.prog ρ { dst, op := .build 157 (p :: ps).toArray, type := ty, pos, after, guard } w) :=
 zcg yeg yis yah ρ dst (p :: ps).toArray ty pos after guard w
attribute [go_sem] places_sm zm8
theorem zv6 (x : Sm) : smL x = ([]) ++ ((tr x.t).toList ++ ([sv x.l])) ∧ ([] : List Value).length = 0 := by
 constructor
 ·
  unfold smL; simp
 ·
  rfl
theorem yh9 (x : Sm) (y : Tr) : za2 (sm x) 0 (tr y) = sm { x with t := y } := by
 rw [za3 (c := sm x) (zv6 x).1 (zv6 x).2 (by simp [za9])]
 simp [sm, smL]
theorem zv5 (x : Sm) : smL x = ((tr x.t).toList) ++ ([sv x.l] ++ ([])) ∧ ((tr x.t).toList : List Value).length = 1 := by
 constructor
 ·
  unfold smL; simp
 ·
  simp [za9]
theorem yn0 {w : World} {b off : Nat} {x : Sm} (h : w.rangeAt b off (smL x)) : w.cell? ⟨b, off + 1, none⟩ = some (sv x.l) := zbj h (zv5 x).1 (zv5 x).2
theorem yia {w : World} {g : Nat} {t : TypeId} {fr : Nat × Nat} {x : Sm} (h : w.heap[g]? = some (.cells (sm x) t fr)) : w.cell? ⟨g, 1, none⟩ = some (sv x.l) := by have := yn0 (x := x) (zai h); rwa [Nat.zero_add] at this
theorem z4m (x : Sm) (y : SlV) : za2 (sm x) 1 #[sv y] = sm { x with l := y } := by
 rw [za3 (c := sm x) (r := #[sv y]) (zv5 x).1 (zv5 x).2 rfl]
 simp [sm, smL]
theorem yn1 {w : World} {b off : Nat} {x : Sm} (h : w.rangeAt b off (smL x)) : w.rangeAt b (off + 0) (trL x.t) := by
 rw [← zgq]; exact zcz h (zv6 x).1 (zv6 x).2
theorem zzf {w : World} {b off : Nat} {x : Sm} (h : w.rangeAt b off (smL x)) : w.cell? ⟨b, off + 0, none⟩ = some (sv x.t.n) := zwf (yn1 h)
theorem z7p {w : World} {g : Nat} {t : TypeId} {fr : Nat × Nat} {x : Sm} (h : w.heap[g]? = some (.cells (sm x) t fr)) : w.cell? ⟨g, 0, none⟩ = some (sv x.t.n) := by have := zzf (x := x) (zai h); rwa [Nat.zero_add] at this
theorem z7o (x : Sm) : (sm x)[0]? = some (sv x.t.n) := by have := zzf (x := x) (zai (heap_alloc_last (default : World) (.cells (sm x) 0))); rw [cell_of_row _ _ _ _ _ _ (heap_alloc_last _ _), Nat.zero_add] at this; exact this
@[go_sem] theorem yqp (x : Sm) (h : 0 < (sm x).size) : (sm x)[0]'h = sv x.t.n := by have := z7o x; rw [Array.getElem?_eq_getElem h] at this; exact Option.some.inj this
attribute [go_sem] yh9 z4m
@[go_sem] theorem yqs (x : Sm) (p : Option Addr) (k c : Nat) : za2 (sm x) 1 #[.slice p k c] = sm { x with l := ⟨p, k, c⟩ } := z4m x ⟨p, k, c⟩
theorem zv7 {w : World} {g : Nat} {x : Sm} (h : w.heap[g]? = some (.cells (sm x) 157 (0, 0))) : w.cell? ⟨g, 0, none⟩ = some (sv x.t.n) ∧ w.cell? ⟨g, 1, none⟩ = some (sv x.l) ∧ ldA w (.pointer (some ⟨g, 0, none⟩)) 2 = some (sm x) ∧ g < w.heap.size :=
 ⟨z7p h, yia h, zag h (zm8 x), (Array.getElem?_eq_some_iff.1 h).1⟩
structure z8r (w0 : World) (g n cp : Nat) (l : List Nd) (a : List UInt64) (m : Nat) (W : World) : Prop where
 below : Below w0.heap.size w0 W
 is : ∃ c, OwnE Enum W w0.heap.size (.slice (some ⟨g, 0, none⟩) n cp) c ∧ ztz l a m c
theorem z0t (s : SlV) (g n cp : Nat) (l : List Nd) (a : List UInt64) (w0 w : World) (hm : MayT l) (h : z8r w0 g n cp l a 1 w) :
  Calls Tryz.prog 120 #[.agg (sm ⟨⟨s⟩, ⟨some ⟨g, 0, none⟩, n, cp⟩⟩), .int .i64 ((0 : Nat) : Int)] w fun e w' => e = .returned (.bool true) ∧ z8r w0 g n cp l a 0 w' := by
 have HH := Lib.hid h
 have HM := Lib.hid hm
 clear h hm
 go_enter Tryz.func120, Tryz.ntmps120
 go_wp2_with fail
 go_ret
 obtain ⟨c, h1, h2⟩ := HH.out.is
 exact ⟨rfl, zac HH.out.below below1, c, zba h1 _, z5z HM.out h2⟩
theorem z50 (s : SlV) (g n cp : Nat) (l : List Nd) (a : List UInt64) (m : Nat) (w0 w : World) (hs : SlE Ene w0 (sv s) l) (hl : l.length = n) (hm : MayT l) (h : z8r w0 g n cp l a (m + 1) w) (h0 : 0 < m) (hmn : m < n) :
  Calls Tryz.prog 120 #[.agg (sm ⟨⟨s⟩, ⟨some ⟨g, 0, none⟩, n, cp⟩⟩), .int .i64 (m : Int)] w fun e w' => ∃ ok, e = .returned (.bool ok) ∧ (ok = true → z8r w0 g n cp l a m w') ∧ (ok = false → zh5 l a = false ∧ Below w0.heap.size w0 w') := by
 obtain ⟨hb, c, ho, hi⟩ := h
 obtain ⟨e1, e2, _⟩ := hm.par h0 (by omega)
 obtain ⟨q, hq⟩ : ∃ q, q = up l m := ⟨_, rfl⟩
 have hc : c.length = n := by rw [hi.1, hl]
 obtain ⟨x, hx⟩ : ∃ x, x = fn c q := ⟨_, rfl⟩
 obtain ⟨y, hy⟩ : ∃ y, y = fn c m := ⟨_, rfl⟩
 have HA := Lib.hid (fun W => yqc x y (by rw [hx]; exact yl2 _ _) (by rw [hy]; exact yl2 _ _) W)
 obtain ⟨W0, hW0⟩ : ∃ W0, W0 = w.alloc (.cells (sm ⟨⟨s⟩, ⟨some ⟨g, 0, none⟩, n, cp⟩⟩) 157) := ⟨_, rfl⟩
 have HB : Hid (Below w0.heap.size w0 W0) := by rw [hW0]; exact zac hb below1
 have M0 : Hid (W0.heap[w.heap.size]? = some (.cells (sm ⟨⟨s⟩, ⟨some ⟨g, 0, none⟩, n, cp⟩⟩) 157 (0, 0))) := by rw [hW0]; exact heap_alloc_last w _
 have HO : Hid (OwnE Enum W0 w0.heap.size (.slice (some ⟨g, 0, none⟩) n cp) c) := by rw [hW0]; exact zba ho _
 have HG : Hid (w0.heap.size ≤ g ∧ g < w.heap.size) := zbi ho rfl
 have HW := Lib.hid hW0
 obtain ⟨p, k, cq⟩ := s
 obtain rfl : n = k := by have := zcn hs; dsimp only at this; omega
 obtain ⟨b1, o1, rfl, hb1, x1⟩ := zda hs (by omega)
 have z4 := zqo (zfu hb x1) (show m < l.length by omega)
 rw [e1, ← hq] at z4
 have y1 := zgx ho (k := q) (by omega)
 have y2 := zgx ho (k := m) (by omega)
 have l1 : b1 < w.heap.size := by have := hb.size; omega
 have l2 : g < w.heap.size := HG.out.2
 rw [← hx] at y1
 rw [← hy] at y2
 have t0 : ((m : Int) == 0) = false := by rw [beq_eq_false_iff_ne]; omega
 have i0 : (0 : Int) ≤ (m : Int) := by omega
 have i1 : (m : Int) < (n : Int) := by omega
 have i2 : (0 : Int) ≤ (q : Int) := by omega
 have i3 : (q : Int) < (n : Int) := by omega
 have HN := Lib.hid hmn
 have HC := Lib.hid hc
 have HS := Lib.hid (show zo5 x y = true → ztz l a m (c.set q (UInt64.ofNat (addV x y))) from fun e => by
  have e' : x + y < 18446744073709551616 := of_decide_eq_true e
  rw [show addV x y = x + y from if_pos e', hx, hy, hq]
  exact z5y hm h0 (by omega) hi (by rw [hx, hy, hq] at e'; exact e'))
 have HNot := Lib.hid (show zo5 x y = false → zh5 l a = false from fun e => by
  have e' : ¬ x + y < 18446744073709551616 := of_decide_eq_false e
  exact yap hm h0 (by omega) hi (by rw [hx, hy, hq] at e'; exact e'))
 have HX := Lib.hid hx
 have HY := Lib.hid hy
 have HM2 : Hid (m < c.length) := by show m < c.length; omega
 have HQ : Hid (q < c.length) := by show q < c.length; omega
 have HV : Hid (addV x y < 18446744073709551616) := by show addV x y < _; unfold addV; split <;> omega
 obtain ⟨v, hv⟩ : ∃ v, v = addV x y := ⟨_, rfl⟩
 obtain ⟨ok, hok⟩ : ∃ ok, ok = zo5 x y := ⟨_, rfl⟩
 rw [← hv, ← hok] at HA
 rw [← hv, ← hok] at HS
 rw [← hok] at HNot
 rw [← hv] at HV
 clear hW0 hb ho hi e1 e2 hq hc hx hy hm hs hl h0 hmn hb1 x1 hv hok
 go_enter Tryz.func120, Tryz.ntmps120
 go_wp2_with fail
 rw [← HW.out]
 clear y1 y2
 obtain ⟨z0, z1, _, zl⟩ := zv7 M0.out
 dsimp only at z0 z1
 rw [za7] at z0 z1
 have y1 := zgx HO.out HQ.out
 have y2 := zgx HO.out HM2.out
 rw [← HX.out] at y1
 rw [← HY.out] at y2
 have La := fun p : Wd W0.drew => zay z1 p
 have Lb := fun p : Wd W0.drew => zay y1 p
 have Lc := fun p : Wd W0.drew => zay y2 p
 refine zan [10] (by kernel_rfl) (by kernel_rfl) (by kernel_rfl) ?_
 repeat (first | (refine zae rfl rfl _ zaf ?_; (first | go_big_quiet_step (fail) | quiet_step (fail)); refine wpQuiet_nil ?_) | refine zah rfl ?_)
 refine zau rfl rfl rfl zus #[.int .u64 (x : Int), .int .u64 (y : Int)] rfl ?_
 refine (HA.out _).mono ?_
 rintro e w1 ⟨rfl, g⟩
 refine ⟨_, rfl, g, ?_⟩
 simp only [Act.put, List.setIfInBounds_toArray, List.set_cons_zero, List.set_cons_succ]
 have g1 : Below W0.heap.size W0 w1 := zac (zak (Below.refl _ _) 1) g
 clear g
 repeat (first | (refine zae rfl rfl _ zaf ?_; (first | go_big_quiet_step (fail) | quiet_step (fail)); refine wpQuiet_nil ?_) | refine zah rfl ?_)
 refine zbd ?_
 have G1 := Lib.hid (HB.out.trans (g1.mono HB.out.size))
 have O1 := Lib.hid (zam g1 HO.out)
 clear La Lb Lc y1 y2 z0 z1 zl z4
 obtain ⟨z0, z1, _, zl⟩ := zv7 (zab g1 M0.out)
 dsimp only at z0 z1
 rw [za7] at z0 z1
 have y1 := zgx O1.out HQ.out
 have y2 := zq0 O1.out HC.out q
 clear g1
 go_wp2_with fail
 go_ret
 exact ⟨ok, rfl, fun e => ⟨G1.out.setCell (p := ⟨g, q, none⟩) HG.out.1 _, _, z32 O1.out HC.out q HV.out, HS.out e⟩, fun e => ⟨HNot.out e, G1.out.setCell (p := ⟨g, q, none⟩) HG.out.1 _⟩⟩
end Go.Proofs.YtkalofboioffiaaGreat
