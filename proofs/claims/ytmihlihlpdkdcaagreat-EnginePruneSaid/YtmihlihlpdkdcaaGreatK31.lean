import Derived.Test.YtmihlihlpdkdcaaGreatK29
import Derived.Test.YtmihlihlpdkdcaaGreatK28
import Derived.Test.YtmihlihlpdkdcaaGreatK26
import Derived.Test.YtmihlihlpdkdcaaGreatK30
import Derived.Test.YtmihlihlpdkdcaaGreatK13
import Derived.Test.YtmihlihlpdkdcaaGreatK19
import Derived.Deep.Cut
import Derived.Deep.CutRange
import Derived.Deep.RegionLaw
import Derived.Test.YtmihlihlpdkdcaaGreatK21
import Derived.Test.YtmihlihlpdkdcaaGreatK15
import Derived.Test.YtmihlihlpdkdcaaGreatK16
import Derived.Test.YtmihlihlpdkdcaaGreatK18
import Derived.Test.YtmihlihlpdkdcaaGreatK11
import Derived.Test.YtmihlihlpdkdcaaGreatQ10
namespace Go.Proofs.YtmihlihlpdkdcaaGreat
open Go.RowKit
set_option maxRecDepth 200000
set_option maxHeartbeats 64000000
theorem zy8 {w : World} {g : Nat} {x : Sm} (h : w.heap[g]? = some (.cells (sm x) 134 (0, 0))) : w.cell? ⟨g, 0, none⟩ = some (sv x.t.n) ∧ w.cell? ⟨g, 1, none⟩ = some (sv x.l) ∧ ldA w (.pointer (some ⟨g, 0, none⟩)) 2 = some (sm x) ∧ g < w.heap.size :=
 ⟨yb1 h, yk0 h, zaf h (zoy x), (Array.getElem?_eq_some_iff.1 h).1⟩
structure yfr (w0 : World) (g n cp : Nat) (l : List Nd) (a : List UInt64) (m : Nat) (W : World) : Prop where
 below : Below w0.heap.size w0 W
 is : ∃ c, OwnE Enum W w0.heap.size (.slice (some ⟨g, 0, none⟩) n cp) c ∧ zxv l a m c
theorem z25 (s : SlV) (g n cp : Nat) (l : List Nd) (a : List UInt64) (w0 w : World) (hm : MayT l) (h : yfr w0 g n cp l a 1 w) :
  Calls Tryz.prog 97 #[.agg (sm ⟨⟨s⟩, ⟨some ⟨g, 0, none⟩, n, cp⟩⟩), .int .i64 ((0 : Nat) : Int)] w fun e w' => e = .returned (.bool true) ∧ yfr w0 g n cp l a 0 w' := by
 have HH := Lib.hid h
 have HM := Lib.hid hm
 clear h hm
 go_enter Tryz.func97, Tryz.ntmps97
 go_wp2_with fail
 go_ret
 obtain ⟨c, h1, h2⟩ := HH.out.is
 exact ⟨rfl, zad HH.out.below below1, c, za6 h1 _, z8x HM.out h2⟩
theorem yat (s : SlV) (g n cp : Nat) (l : List Nd) (a : List UInt64) (m : Nat) (w0 w : World) (hs : SlE Ene w0 (sv s) l) (hl : l.length = n) (hm : MayT l) (h : yfr w0 g n cp l a (m + 1) w) (h0 : 0 < m) (hmn : m < n) :
  Calls Tryz.prog 97 #[.agg (sm ⟨⟨s⟩, ⟨some ⟨g, 0, none⟩, n, cp⟩⟩), .int .i64 (m : Int)] w fun e w' => ∃ ok, e = .returned (.bool ok) ∧ (ok = true → yfr w0 g n cp l a m w') ∧ (ok = false → zdp l a = false ∧ Below w0.heap.size w0 w') := by
 obtain ⟨hb, c, ho, hi⟩ := h
 obtain ⟨e1, e2, _⟩ := hm.par h0 (by omega)
 obtain ⟨q, hq⟩ : ∃ q, q = up l m := ⟨_, rfl⟩
 have hc : c.length = n := by rw [hi.1, hl]
 obtain ⟨x, hx⟩ : ∃ x, x = fn c q := ⟨_, rfl⟩
 obtain ⟨y, hy⟩ : ∃ y, y = fn c m := ⟨_, rfl⟩
 have HA := Lib.hid (fun W => yor x y (by rw [hx]; exact zy4 _ _) (by rw [hy]; exact zy4 _ _) W)
 obtain ⟨W0, hW0⟩ : ∃ W0, W0 = w.alloc (.cells (sm ⟨⟨s⟩, ⟨some ⟨g, 0, none⟩, n, cp⟩⟩) 134) := ⟨_, rfl⟩
 have HB : Hid (Below w0.heap.size w0 W0) := by rw [hW0]; exact zad hb below1
 have M0 : Hid (W0.heap[w.heap.size]? = some (.cells (sm ⟨⟨s⟩, ⟨some ⟨g, 0, none⟩, n, cp⟩⟩) 134 (0, 0))) := by rw [hW0]; exact heap_alloc_last w _
 have HO : Hid (OwnE Enum W0 w0.heap.size (.slice (some ⟨g, 0, none⟩) n cp) c) := by rw [hW0]; exact za6 ho _
 have HG : Hid (w0.heap.size ≤ g ∧ g < w.heap.size) := zbm ho rfl
 have HW := Lib.hid hW0
 obtain ⟨p, k, cq⟩ := s
 obtain rfl : n = k := by have := zdm hs; dsimp only at this; omega
 obtain ⟨b1, o1, rfl, hb1, x1⟩ := zf4 hs (by omega)
 have z4 := z2u (zhd hb x1) (show m < l.length by omega)
 rw [e1, ← hq] at z4
 have y1 := zdg ho (k := q) (by omega)
 have y2 := zdg ho (k := m) (by omega)
 have l1 : b1 < w.heap.size := by have := hb.size; omega
 have l2 : g < w.heap.size := HG.out.2
 rw [← hx] at y1
 rw [← hy] at y2
 have t0 : ((m : Int) == 0) = false := by rw [beq_eq_false_iff_ne]; omega
 have i0 : (0 : Int) ≤ (m : Int) := by omega
 have i1 : (m : Int) < (n : Int) := by omega
 have i2 : (0 : Int) ≤ (q : Int) := by omega
 have i3 : (q : Int) < (n : Int) := by omega
 have HN := Lib.hid hmn
 have HC := Lib.hid hc
 have HS := Lib.hid (show zox x y = true → zxv l a m (c.set q (UInt64.ofNat (addV x y))) from fun e => by
  have e' : x + y < 18446744073709551616 := of_decide_eq_true e
  rw [show addV x y = x + y from if_pos e', hx, hy, hq]
  exact ybu hm h0 (by omega) hi (by rw [hx, hy, hq] at e'; exact e'))
 have HNot := Lib.hid (show zox x y = false → zdp l a = false from fun e => by
  have e' : ¬ x + y < 18446744073709551616 := of_decide_eq_false e
  exact ygh hm h0 (by omega) hi (by rw [hx, hy, hq] at e'; exact e'))
 have HX := Lib.hid hx
 have HY := Lib.hid hy
 have HM2 : Hid (m < c.length) := by show m < c.length; omega
 have HQ : Hid (q < c.length) := by show q < c.length; omega
 have HV : Hid (addV x y < 18446744073709551616) := by show addV x y < _; unfold addV; split <;> omega
 obtain ⟨v, hv⟩ : ∃ v, v = addV x y := ⟨_, rfl⟩
 obtain ⟨ok, hok⟩ : ∃ ok, ok = zox x y := ⟨_, rfl⟩
 rw [← hv, ← hok] at HA
 rw [← hv, ← hok] at HS
 rw [← hok] at HNot
 rw [← hv] at HV
 clear hW0 hb ho hi e1 e2 hq hc hx hy hm hs hl h0 hmn hb1 x1 hv hok
 go_enter Tryz.func97, Tryz.ntmps97
 go_wp2_with fail
 rw [← HW.out]
 clear y1 y2
 obtain ⟨z0, z1, _, zl⟩ := zy8 M0.out
 dsimp only at z0 z1
 rw [zat] at z0 z1
 have y1 := zdg HO.out HQ.out
 have y2 := zdg HO.out HM2.out
 rw [← HX.out] at y1
 rw [← HY.out] at y2
 have La := fun p : Wd W0.drew => za3 z1 p
 have Lb := fun p : Wd W0.drew => za3 y1 p
 have Lc := fun p : Wd W0.drew => za3 y2 p
 refine za4 [10] (by kernel_rfl) (by kernel_rfl) (by kernel_rfl) ?_
 repeat (first | (refine zae rfl rfl _ zag ?_; (first | go_big_quiet_step (fail) | quiet_step (fail)); refine wpQuiet_nil ?_) | refine zam rfl ?_)
 refine zau rfl rfl rfl zy1 #[.int .u64 (x : Int), .int .u64 (y : Int)] rfl ?_
 refine (HA.out _).mono ?_
 rintro e w1 ⟨rfl, g⟩
 refine ⟨_, rfl, g, ?_⟩
 simp only [Act.put, List.setIfInBounds_toArray, List.set_cons_zero, List.set_cons_succ]
 have g1 : Below W0.heap.size W0 w1 := zad (zap (Below.refl _ _) 1) g
 clear g
 repeat (first | (refine zae rfl rfl _ zag ?_; (first | go_big_quiet_step (fail) | quiet_step (fail)); refine wpQuiet_nil ?_) | refine zam rfl ?_)
 refine zbx ?_
 have G1 := Lib.hid (HB.out.trans (g1.mono HB.out.size))
 have O1 := Lib.hid (zah g1 HO.out)
 clear La Lb Lc y1 y2 z0 z1 zl z4
 obtain ⟨z0, z1, _, zl⟩ := zy8 (zab g1 M0.out)
 dsimp only at z0 z1
 rw [zat] at z0 z1
 have y1 := zdg O1.out HQ.out
 have y2 := ziv O1.out HC.out q
 clear g1
 go_wp2_with fail
 go_ret
 exact ⟨ok, rfl, fun e => ⟨G1.out.setCell (p := ⟨g, q, none⟩) HG.out.1 _, _, zrb O1.out HC.out q HV.out, HS.out e⟩, fun e => ⟨HNot.out e, G1.out.setCell (p := ⟨g, q, none⟩) HG.out.1 _⟩⟩
theorem ym8 (x : Value) (p : Option Addr) (n cp : Nat) (w : World) (R : Nat → World → Prop) (B : World → Prop) (hn : n ≤ 1000)
  (H : ∀ m W, m < n → R (m + 1) W → Calls Tryz.prog 97 #[x, .int .i64 (m : Int)] W fun e w' => ∃ ok, e = .returned (.bool ok) ∧ (ok = true → R m w') ∧ (ok = false → B w'))
  (h : R n w) :
  Calls Tryz.prog 96 #[.slice p n cp, .func (.func 97) #[x] #[]] w fun e w' => ∃ v ok, e = .returned (.tuple #[v, .bool ok]) ∧ (ok = true → v = .slice p n cp ∧ R 0 w') ∧ (ok = false → v = .slice none 0 0 ∧ B w') := by
 have HH := Lib.hid H
 have HR := Lib.hid h
 have HN := Lib.hid hn
 clear H h hn
 go_enter Tryz.func96, Tryz.ntmps96
 go_wp2_with fail
 go_loopw [6, 9] (fun _ k wr => ∃ j : Nat, j ≤ n ∧ k = .int .i64 (j : Int) ∧ R (n - j) wr) (fun _ k _ => n - (intOf k).toNat)
 case atStart => exact ⟨0, Nat.zero_le _, rfl, HR.out⟩
 case round =>
  obtain ⟨j, hj, rfl, hr⟩ := hrel
  have KR := Lib.hid hr
  clear hr
  by_cases hlt : j < n
  ·
   have i0 : (0 : Int) ≤ (j : Int) := by omega
   have i1 : (j : Int) < (n : Int) := by omega
   have u1 : (j : Int) + 1 < 10000 := by have := HN.out; omega
   have u2 : (n : Int) < 10000 := by have := HN.out; omega
   obtain ⟨m, hm⟩ : ∃ m, m = n - 1 - j := ⟨_, rfl⟩
   have hmi : (n : Int) - 1 - (j : Int) = (m : Int) := by omega
   have HC := Lib.hid (HH.out m wr (by omega) (by rw [show m + 1 = n - j by omega]; exact KR.out))
   have HM : Hid (n - (j + 1) = m) := by show n - (j + 1) = m; omega
   have HL := Lib.hid hlt
   clear hm hlt
   go_wp2_with fail
   refine HC.out.mono ?_
   rintro e w1 ⟨ok, rfl, hy, hz⟩
   have HY := Lib.hid hy
   have HZ := Lib.hid hz
   clear hy hz
   cases ok
   ·
    go_wp2_with fail
    go_ret2
    exact ⟨_, _, rfl, (fun e => by cases e), (fun _ => ⟨rfl, HZ.out (by simp)⟩)⟩
   ·
    go_wp2_with fail
    go_roundw
    case rel => exact ⟨j + 1, HL.out, by go_num, by rw [HM.out]; exact HY.out (by simp)⟩
    case measure => simp [intOf]; have := HL.out; omega
  ·
   obtain rfl : j = n := by omega
   clear hlt
   go_wp2_with fail
   go_ret2
   exact ⟨_, _, rfl, (fun _ => ⟨rfl, by have := KR.out; rwa [Nat.sub_self] at this⟩), (fun e => by cases e)⟩
theorem z2n (w : World) (o : Obj) (n : Nat) : ((w.alloc o).drewN n).heap[w.heap.size]? = some o := heap_alloc_last w o
theorem yb6 {w : World} {g : Nat} {c r : Array Value} {t : TypeId} (hg : w.heap[g]? = some (.cells c t (0, 0))) (h : r.size = c.size) : (stA w (.pointer (some ⟨g, 0, none⟩)) (.agg r)).heap[g]? = some (.cells r t (0, 0)) := by
 rw [zbu hg (by omega)]
 congr 2
 apply Array.toList_inj.1
 unfold zax
 simp only [List.take_zero, List.nil_append, Nat.zero_add]
 rw [List.drop_of_length_le (by rw [Array.length_toList]; omega), List.append_nil]
def VarS (W : World) (s : SlV) (a : List UInt64) (n : Nat) (t : Value) (wx : World) : Prop :=
 ∃ g gc cap, t = .pointer (some ⟨g, 0, none⟩) ∧ wx.heap[g]? = some (.cells (sm ⟨⟨s⟩, ⟨some ⟨gc, 0, none⟩, n, cap⟩⟩) 134 (0, 0)) ∧ OwnE Enum wx W.heap.size (.slice (some ⟨gc, 0, none⟩) n cap) a ∧ Below W.heap.size W wx
theorem ymr {W w2 : World} {k : Nat} {s : SlV} {a : List UInt64} {n gc cap : Nat} (g2 : Below ((W.alloc (.cells (sm zsm) 134)).drewN k).heap.size ((W.alloc (.cells (sm zsm) 134)).drewN k) w2)
  (ho : OwnE Enum w2 ((W.alloc (.cells (sm zsm) 134)).drewN k).heap.size (.slice (some ⟨gc, 0, none⟩) n cap) a) : VarS W s a n (.pointer (some ⟨W.heap.size, 0, none⟩)) (stA w2 (.pointer (some ⟨W.heap.size, 0, none⟩)) (.agg (sm ⟨⟨s⟩, ⟨some ⟨gc, 0, none⟩, n, cap⟩⟩))) := by
 have hz : ((W.alloc (.cells (sm zsm) 134)).drewN k).heap.size = W.heap.size + 1 := by show (W.alloc _).heap.size = _; simp
 have hn := zab g2 (z2n W _ k)
 rw [hz] at ho
 refine ⟨_, gc, cap, rfl, yb6 hn (by rw [zoy, zoy]), zbi (zd7 ho (by omega)) (by omega), ?_⟩
 exact zav (zad (zap below1 k) g2) (Nat.le_refl _)
theorem yiy {W w2 : World} {k : Nat} {s : SlV} {a : List UInt64} {n gc cap : Nat} (g2 : Below (W.drewN k).heap.size (W.drewN k) w2)
  (ho : OwnE Enum w2 (W.drewN k).heap.size (.slice (some ⟨gc, 0, none⟩) n cap) a) : VarS W s a n (.pointer (some ⟨w2.heap.size, 0, none⟩)) (w2.alloc (.cells (sm ⟨⟨s⟩, ⟨some ⟨gc, 0, none⟩, n, cap⟩⟩) 134)) :=
 ⟨_, gc, cap, rfl, heap_alloc_last _ _, za6 ho _, zad (zad (zap (Below.refl _ _) k) g2) below1⟩
theorem z0y (p q : Option Addr) (n cp m cq : Nat) (l : List Nd) (w : World) (h : SlE Ene w (.slice p n cp) l) (hk : ¬ (MayT l ∧ m = n)) :
  Calls Tryz.prog 66 #[.agg (tr ⟨⟨p, n, cp⟩⟩), .slice q m cq] w (NumsOk [] false w) := by
 have HM := Lib.hid (fun W (g : Below w.heap.size w W) => ziy ⟨p, n, cp⟩ l W (zac g h))
 obtain ⟨W0, hW0⟩ : ∃ W0, W0 = w.alloc (.cells (tr ⟨⟨p, n, cp⟩⟩) 28) := ⟨_, rfl⟩
 have HB : Hid (Below w.heap.size w W0) := by rw [hW0]; exact below1
 have M0 : Hid (W0.heap[w.heap.size]? = some (.cells (tr ⟨⟨p, n, cp⟩⟩) 28 (0, 0))) := by rw [hW0]; exact heap_alloc_last w _
 have HW := Lib.hid hW0
 obtain ⟨r, hr⟩ : ∃ r, r = decide (MayT l) := ⟨_, rfl⟩
 rw [← hr] at HM
 have HK : Hid (r = true → ((m : Int) != (n : Int)) = true) := fun e => by
  rw [bne_iff_ne]
  intro e2
  exact hk ⟨of_decide_eq_true (hr.symm.trans e), by omega⟩
 clear hW0 h hk hr
 go_enter Tryz.func66, Tryz.ntmps66
 go_wp2_with fail
 rw [← HW.out]
 refine (HM.out W0 HB.out).mono ?_
 rintro e w1 ⟨rfl, g1⟩
 have G1 := Lib.hid (zad HB.out g1)
 obtain ⟨z0, z1, zl⟩ := za2 (zab g1 M0.out)
 dsimp only at z0
 rw [zat] at z0
 clear g1
 cases r
 ·
  go_wp2_with fail
  go_ret2
  exact ⟨_, rfl, zbv _ _ _, G1.out⟩
 ·
  have t1 := HK.out rfl
  go_wp2_with fail
  go_ret2
  exact ⟨_, rfl, zbv _ _ _, G1.out⟩
theorem zyi (p q : Option Addr) (n cp cq : Nat) (l : List Nd) (a : List UInt64) (w : World) (h : SlE Ene w (.slice p n cp) l) (h' : SlE Enum w (.slice q n cq) a) (hl : l.length = n) (ha : a.length = n) (hm : MayT l) :
  Calls Tryz.prog 66 #[.agg (tr ⟨⟨p, n, cp⟩⟩), .slice q n cq] w (NumsOk (subL l a) (zdp l a) w) := by
 have HM : Hid (∀ W, Below w.heap.size w W → Calls Tryz.prog 48 #[.agg (tr ⟨⟨p, n, cp⟩⟩)] W fun e w' => e = .returned (.bool true) ∧ Below W.heap.size W w') := fun W g => by
  have := ziy ⟨p, n, cp⟩ l W (zac g h)
  rwa [decide_eq_true hm] at this
 have HC := Lib.hid (fun W (g : Below w.heap.size w W) => zgb (.slice q n cq) a W (zac g h') (by have := hm.le; omega))
 obtain ⟨W0, hW0⟩ : ∃ W0, W0 = w.alloc (.cells (tr ⟨⟨p, n, cp⟩⟩) 28) := ⟨_, rfl⟩
 have HB : Hid (Below w.heap.size w W0) := by rw [hW0]; exact below1
 have M0 : Hid (W0.heap[w.heap.size]? = some (.cells (tr ⟨⟨p, n, cp⟩⟩) 28 (0, 0))) := by rw [hW0]; exact heap_alloc_last w _
 have HW := Lib.hid hW0
 have HS := Lib.hid h
 have HL := Lib.hid hl
 have HMm := Lib.hid hm
 have HLA := Lib.hid ha
 have HN : Hid (0 < n) := by show 0 < n; have := hm.pos; omega
 have t0 : ((n : Int) != (n : Int)) = false := by simp
 clear hW0 h h' hl ha hm
 go_enter Tryz.func66, Tryz.ntmps66
 go_wp2_with fail
 rw [← HW.out]
 refine (HM.out W0 HB.out).mono ?_
 rintro e w1 ⟨rfl, g1⟩
 have G1 := Lib.hid (zad HB.out g1)
 have M1 := Lib.hid (zab g1 M0.out)
 obtain ⟨z0, z1, zl⟩ := za2 M1.out
 dsimp only at z0
 rw [zat] at z0
 clear g1
 go_upto_region 3 with fail
 go_cut [6] from 18 to 22 (fun t wx => VarS w1 ⟨p, n, cp⟩ a n t wx)
 case first =>
  go_region_law (refine z9a _ rfl rfl zsp #[.slice q n cq] rfl ?_; refine (HC.out _ (by first | exact zad G1.out (zap (Below.refl _ _) _) | exact zad G1.out (zap below1 _))).mono ?_; rintro e w2 ⟨v2, rfl, ho, g2⟩; refine ⟨_, rfl, ?_⟩; obtain ⟨gc, cap, rfl, hgc⟩ := z2j ho HLA.out HN.out; obtain ⟨-, zt, zu⟩ := za2 (zab (zad (by first | exact zap (Below.refl _ _) _ | exact zap below1 _) g2) M1.out); (try (have yw := za8 (zab g2 (z2n w1 _ _)) (zoy _))); (first | (have HR := Lib.hid (ymr (s := ⟨p, n, cp⟩) g2 ho)) | (have HR := Lib.hid (yiy (W := w1) (s := ⟨p, n, cp⟩) g2 ho))))
  all_goals (go_wp2_with fail; go_meet; exact HR.out)
 case rest =>
  obtain ⟨g, gc, cap, rfl, hg, ho, hb⟩ := hcut
  have G2 := Lib.hid (zad G1.out hb)
  have B0 := Lib.hid hb
  have HX := Lib.hid (ym8 (.agg (sm ⟨⟨⟨p, n, cp⟩⟩, ⟨some ⟨gc, 0, none⟩, n, cap⟩⟩)) (some ⟨gc, 0, none⟩) n cap wc (yfr w1 gc n cap l a) (fun W => zdp l a = false ∧ Below w1.heap.size w1 W) (by have := HMm.out.le; have := HL.out; omega)
   (fun m W hmn hr => by
    by_cases h0 : m = 0
    ·
     subst h0
     exact (z25 ⟨p, n, cp⟩ gc n cap l a w1 W HMm.out hr).mono fun e w' ⟨h1, h2⟩ => ⟨true, h1, fun _ => h2, fun e => by cases e⟩
    ·
     exact yat ⟨p, n, cp⟩ gc n cap l a m w1 W (zac G1.out HS.out) HL.out HMm.out hr (by omega) hmn)
   ⟨hb, a, ho, by rw [← HL.out]; exact z5d (by rw [HLA.out, HL.out])⟩)
  obtain ⟨y0, y1, y2, yl⟩ := zy8 hg
  dsimp only at y1
  rw [zat] at y1
  clear hg ho hb
  go_wp2_with fail
  refine HX.out.mono ?_
  rintro e w3 ⟨v, ok, rfl, h1, h2⟩
  cases ok
  ·
   obtain ⟨rfl, h3, h4⟩ := h2 rfl
   have HF := Lib.hid h3
   have HB4 := Lib.hid h4
   clear h1 h2 h3 h4
   go_wp2_with fail
   go_ret2
   exact ⟨_, by rw [HF.out]; first | done | rfl, by rw [ydz HF.out]; exact zbv _ _ _, zad G1.out HB4.out⟩
  ·
   obtain ⟨rfl, hb4, c, ho, hi⟩ := h1 rfl
   obtain ⟨e1, rfl⟩ := yfi HMm.out (by rw [HLA.out, HL.out]) hi
   have HF := Lib.hid e1
   have HB4 := Lib.hid hb4
   have HO := Lib.hid ho
   clear h1 h2 hb4 ho hi e1
   go_wp2_with fail
   go_ret2
   exact ⟨_, by rw [HF.out]; first | done | rfl, zbi HO.out G1.out.size, zad G1.out HB4.out⟩
theorem zt9 (s : SlV) (v : Value) (l : List Nd) (a : List UInt64) (w : World) (h : SlE Ene w (sv s) l) (h' : SlE Enum w v a) :
  Calls Tryz.prog 66 #[.agg (tr ⟨s⟩), v] w (NumsOk (subL l a) (zdp l a) w) := by
 have k := h'
 have hs := zdm h
 obtain ⟨q, cq, rfl, _⟩ := zaj h'
 obtain ⟨p, n, cp⟩ := s
 dsimp only at hs
 subst hs
 by_cases hk : MayT l ∧ a.length = l.length
 ·
  rw [hk.2] at k ⊢
  exact zyi p q _ cp cq l a w h k rfl hk.2 hk.1
 ·
  have e : zdp l a = false := by
   rw [← Bool.not_eq_true]
   intro e
   obtain ⟨h1, h2, _⟩ := ze4.1 e
   exact hk ⟨h1, h2⟩
  rw [ydz e, e]
  exact z0y p q _ cp _ cq l w h hk
theorem ybd (p r1 : Option Addr) (v2 v3 : Value) (n cp m c1 : Nat) (l : List Nd) (a pl mi : List UInt64) (w : World) (h : SlE Ene w (.slice p n cp) l) (h1 : SlE Enum w (.slice r1 m c1) a) (h2 : SlE Enum w v2 pl) (h3 : SlE Enum w v3 mi) (hl : l.length = n) (ha : a.length = m) :
  Calls Tryz.prog 123 #[.agg (tr ⟨⟨p, n, cp⟩⟩), .slice r1 m c1, v2, v3] w (NumsOk (zpd l a pl mi) (ze0 l a pl mi) w) := by
 have HP := Lib.hid (fun W (g : Below w.heap.size w W) => zt9 ⟨p, n, cp⟩ v2 l pl W (zac g h) (zac g h2))
 have HQ := Lib.hid (fun W (g : Below w.heap.size w W) => zt9 ⟨p, n, cp⟩ v3 l mi W (zac g h) (zac g h3))
 obtain ⟨A, hA⟩ : ∃ A, A = zdp l pl := ⟨_, rfl⟩
 obtain ⟨B, hB⟩ : ∃ B, B = zdp l mi := ⟨_, rfl⟩
 rw [← hA] at HP
 rw [← hB] at HQ
 have KA := Lib.hid hA
 have KB := Lib.hid hB
 obtain ⟨W0, hW0⟩ : ∃ W0, W0 = w.alloc (.cells (tr ⟨⟨p, n, cp⟩⟩) 28) := ⟨_, rfl⟩
 have G0 : Hid (Below w.heap.size w W0) := by rw [hW0]; exact below1
 have M0 : Hid (W0.heap[w.heap.size]? = some (.cells (tr ⟨⟨p, n, cp⟩⟩) 28 (0, 0))) := by rw [hW0]; exact heap_alloc_last w _
 have HW := Lib.hid hW0
 have HL := Lib.hid hl
 have HA := Lib.hid ha
 have HS1 := Lib.hid h1
 obtain ⟨res, hres⟩ : ∃ res, res = ze0 l a pl mi := ⟨_, rfl⟩
 have HR := Lib.hid hres
 rw [← hres]
 clear h h1 h2 h3 hl ha hA hB hW0 hres
 go_enter Tryz.func123, Tryz.ntmps123
 go_wp2_with fail
 rw [← HW.out]
 obtain ⟨z0, z1, zl⟩ := za2 M0.out
 refine (HP.out W0 G0.out).mono ?_
 rintro e w1 ⟨vp, rfl, hp, g1⟩
 have G1 := Lib.hid (zad G0.out g1)
 have M1 := Lib.hid (zab g1 M0.out)
 have P1 := Lib.hid (zak hp)
 clear z0 z1 zl hp g1
 obtain ⟨z0, z1, zl⟩ := za2 M1.out
 go_wp2_with fail
 refine (HQ.out w1 G1.out).mono ?_
 rintro e w2 ⟨vq, rfl, hq, g2⟩
 have G2 := Lib.hid (zad G1.out g2)
 have M2 := Lib.hid (zab g2 M1.out)
 have P2 := Lib.hid (zac g2 P1.out)
 have Q2 := Lib.hid (zak hq)
 clear z0 z1 zl hq g2 P1
 obtain ⟨z0, z1, zl⟩ := za2 M2.out
 dsimp only at z0
 rw [zat] at z0
 cases A
 ·
  have hF : Hid (res = false) := by show res = false; rw [HR.out, ← Bool.not_eq_true]; intro e; have := (zfh.1 e).1; rw [← KA.out] at this; exact Bool.false_ne_true this
  go_wp2_with fail
  go_ret2
  exact ⟨_, by rw [hF.out]; first | done | rfl, by rw [zra (by rw [← HR.out]; exact hF.out)]; exact zbv _ _ _, G2.out⟩
 ·
  cases B
  ·
   have hF : Hid (res = false) := by show res = false; rw [HR.out, ← Bool.not_eq_true]; intro e; have := (zfh.1 e).2.1; rw [← KB.out] at this; exact Bool.false_ne_true this
   go_wp2_with fail
   go_ret2
   exact ⟨_, by rw [hF.out]; first | done | rfl, by rw [zra (by rw [← HR.out]; exact hF.out)]; exact zbv _ _ _, G2.out⟩
  ·
   by_cases hm : m = n
   ·
    subst hm
    have t1 : ((m : Int) != (m : Int)) = false := by simp
    have hpos : 0 < m := by have := (ze4.1 KA.out.symm).1.pos; have := HL.out; omega
    have HLP : Hid ((subL l pl).length = m) := by show _ = m; rw [zfm KA.out.symm, HL.out]
    have HLQ : Hid ((subL l mi).length = m) := by show _ = m; rw [zfm KB.out.symm, HL.out]
    have HN : Hid (m ≤ 12 ∧ 0 < m) := ⟨by have := (ze4.1 KA.out.symm).1.le; have := HL.out; omega, hpos⟩
    obtain ⟨pp, cpp, rfl⟩ := zl3 P2.out HLP.out
    obtain ⟨pq, cqq, rfl⟩ := zl3 Q2.out HLQ.out
    obtain ⟨b1, o1, rfl, _, _⟩ := zcz P2.out (by rw [HLP.out]; exact hpos)
    obtain ⟨b2, o2, rfl, _, _⟩ := zcz Q2.out (by rw [HLQ.out]; exact hpos)
    have HC := Lib.hid (zgb (.slice r1 m c1) a w2 (zac G2.out HS1.out) (by have := HA.out; have := HN.out.1; omega))
    clear hpos
    go_wp2_with fail
    refine HC.out.mono ?_
    rintro e w3 ⟨v3', rfl, ho, g3⟩
    obtain ⟨gc, cap, rfl, hgc⟩ := z2j ho HA.out HN.out.2
    have G3 := Lib.hid g3
    have O3 := Lib.hid ho
    clear ho g3 hgc
    go_wp2_with fail
    refine (yka (.agg (ch ⟨⟨some ⟨gc, 0, none⟩, m, cap⟩, ⟨some ⟨b1, o1, none⟩, m, cpp⟩, ⟨some ⟨b2, o2, none⟩, m, cqq⟩⟩)) (some ⟨gc, 0, none⟩) m cap _ (yfk w2 gc m cap a (subL l pl) (subL l mi)) (fun W => (∃ i, i < m ∧ zht (fn a i) (fn (subL l pl) i) (fn (subL l mi) i) = false) ∧ Below w2.heap.size w2 W) (by have := HN.out.1; omega)
     (fun j W hj hr => ?_) ⟨zad G3.out below1, a, za6 O3.out _, z3f HA.out⟩).mono ?_
    ·
     by_cases hle : fn (subL l mi) j ≤ fn (subL l pl) j
     ·
      exact (z4w b1 o1 m cpp b2 o2 m cqq gc m cap a (subL l pl) (subL l mi) j w2 W P2.out Q2.out rfl rfl hr hj hle).mono fun e w' ⟨ok, h1, h2, h3⟩ => ⟨ok, h1, h2, fun e => ⟨⟨j, hj, (h3 e).1⟩, (h3 e).2⟩⟩
     ·
      exact (z48 b1 o1 m cpp b2 o2 m cqq gc m cap a (subL l pl) (subL l mi) j w2 W P2.out Q2.out rfl rfl hr hj hle).mono fun e w' ⟨ok, h1, h2, h3⟩ => ⟨ok, h1, h2, fun e => ⟨⟨j, hj, (h3 e).1⟩, (h3 e).2⟩⟩
    ·
     rintro e w4 ⟨v, ok, rfl, h1, h2⟩
     cases ok
     ·
      obtain ⟨rfl, ⟨i, hi, h3⟩, h4⟩ := h2 rfl
      have hF : Hid (res = false) := by show res = false; rw [HR.out]; exact yi9 KA.out.symm KB.out.symm (by rw [HL.out]; exact hi) h3
      have HB4 := Lib.hid h4
      clear h1 h2 h3 h4 hi
      go_wp2_with fail
      go_ret2
      exact ⟨_, by rw [hF.out]; first | done | rfl, by rw [zra (by rw [← HR.out]; exact hF.out)]; exact zbv _ _ _, zad G2.out HB4.out⟩
     ·
      obtain ⟨rfl, hb4, c, ho, hi⟩ := h1 rfl
      rw [← HL.out] at hi
      obtain ⟨e1, rfl⟩ := ygo KA.out.symm KB.out.symm (by rw [HA.out, HL.out]) hi
      have hF : Hid (res = true) := by show res = true; rw [HR.out]; exact e1
      have HB4 := Lib.hid hb4
      have HO := Lib.hid ho
      clear h1 h2 hb4 ho hi e1
      go_wp2_with fail
      go_ret2
      exact ⟨_, by rw [hF.out]; first | done | rfl, zbi HO.out G2.out.size, zad G2.out HB4.out⟩
   ·
    have hF : Hid (res = false) := by show res = false; rw [HR.out, ← Bool.not_eq_true]; intro e; have := (zfh.1 e).2.2.1; rw [HA.out, HL.out] at this; exact hm this
    have t1 : ((m : Int) != (n : Int)) = true := by rw [bne_iff_ne]; omega
    clear hm
    go_wp2_with fail
    go_ret2
    exact ⟨_, by rw [hF.out]; first | done | rfl, by rw [zra (by rw [← HR.out]; exact hF.out)]; exact zbv _ _ _, G2.out⟩
theorem yjw (s : SlV) (v1 v2 v3 : Value) (l : List Nd) (a pl mi : List UInt64) (w : World) (h : SlE Ene w (sv s) l) (h1 : SlE Enum w v1 a) (h2 : SlE Enum w v2 pl) (h3 : SlE Enum w v3 mi) :
  Calls Tryz.prog 123 #[.agg (tr ⟨s⟩), v1, v2, v3] w (NumsOk (zpd l a pl mi) (ze0 l a pl mi) w) := by
 have k := h1
 have hs := zdm h
 obtain ⟨r1, c1, rfl, _⟩ := zaj h1
 obtain ⟨p, n, cp⟩ := s
 dsimp only at hs
 exact ybd p r1 v2 v3 n cp _ c1 l a pl mi w h k h2 h3 hs rfl
theorem yjb (n : Nat) (k : Nat) : lat (newV (n : Int)).l k = zlt := by
 unfold newV lat
 split
 ·
  rw [Int.toNat_natCast, List.getD_eq_getElem?_getD, List.getElem?_replicate]
  split <;> rfl
 ·
  rfl
theorem ysr {l : List Nd} {v : Vt} {bal : List UInt64} (h : fitB l v bal = true) : fitB l (newV (v.l.length : Int)) bal = true := by
 obtain ⟨h1, h2, h3, h4⟩ := zfd.1 h
 obtain ⟨a, b, _⟩ := zct.1 h2
 obtain ⟨k1, k2, _⟩ := yru (n := (v.l.length : Int)) (decide_eq_true (by omega))
 exact zfd.2 ⟨h1, k1, h3, by rw [k2]; omega⟩
theorem yde (l : List Nd) (v : Vt) (bal : List UInt64) : ofB l (newV (v.l.length : Int)) v bal = fitB l v bal := by
 cases h : fitB l v bal
 ·
  unfold ofB; rw [h, Bool.and_false]
 ·
  exact ztk.2 ⟨ysr h, h⟩
theorem yks (l : List Nd) (v : Vt) (bal : List UInt64) : zix l (newV (v.l.length : Int)) v bal = ownL l v bal := by
 cases h : fitB l v bal
 ·
  rw [z6o (by rw [yde, h]), yrc h]
 ·
  rw [znm (by rw [yde, h]), zxx h]
  congr 1
  funext i
  unfold zlo ownF
  congr 1
  funext k
  unfold newB
  rw [yjb]
  cases hk : forB l v i k
  ·
   rfl
  ·
   have : lat v.l k ≠ zlt := by
    intro e
    unfold forB at hk
    rw [e] at hk
    cases hk
   rw [decide_eq_true this]; rfl
theorem z9r (p q r : Option Addr) (n cp m cq k cr : Nat) (l : List Nd) (v : Vt) (bal : List UInt64) (w : World) (h : SlE Ene w (.slice p n cp) l) (h1 : SlE Elt w (.slice q m cq) v.l) (h2 : SlE Enum w (.slice r k cr) bal) (hv : v.l.length = m) :
  Calls Tryz.prog 65 #[.agg (tr ⟨⟨p, n, cp⟩⟩), .agg (vo ⟨⟨q, m, cq⟩, v.out⟩), .slice r k cr] w (z1s (ownL l v bal) (fitB l v bal) w) := by
 have HN := Lib.hid (fun W => ye9 (m : Int) W)
 have HO := Lib.hid (fun (s1 : SlV) W (g : Below w.heap.size w W) (hs : SlE Elt W (sv s1) (newV (m : Int)).l) => ydv ⟨p, n, cp⟩ s1 ⟨q, m, cq⟩ (.slice r k cr) l (newV (m : Int)) v bal W (zac g h) hs (zac g h1) (zac g h2))
 have e1 := yde l v bal
 have e2 := yks l v bal
 rw [hv] at e1 e2
 rw [e1, e2] at HO
 obtain ⟨f, hf⟩ : ∃ f, f = fitB l v bal := ⟨_, rfl⟩
 rw [← hf] at HO ⊢
 generalize ownL l v bal = A at *
 generalize zez l (newV (m : Int)) v bal = M at *
 generalize zjb (m : Int) = ok at *
 generalize newV (m : Int) = V at *
 obtain ⟨W0, hW0⟩ : ∃ W0, W0 = (w.alloc (.cells (tr ⟨⟨p, n, cp⟩⟩) 28)).alloc (.cells (vo ⟨⟨q, m, cq⟩, v.out⟩) 32) := ⟨_, rfl⟩
 obtain ⟨hB, k0, k1, hz0⟩ := zd0 w _ _ _ _ W0 hW0
 have HB := Lib.hid hB
 have HW := Lib.hid hW0
 have K0 := Lib.hid k0
 have K1 := Lib.hid k1
 have y0 := (zbn k1).1
 dsimp only at y0
 rw [zat] at y0
 clear hW0 h h1 h2 hv hB k0 k1 hz0 hf e1 e2
 go_enter Tryz.func65, Tryz.ntmps65
 go_wp2_with fail
 rw [← HW.out]
 go_wp2_with fail
 refine (HN.out W0).mono ?_
 rintro e w1 ⟨s1, rfl, hs1, g1⟩
 have G1 := Lib.hid (zad HB.out g1)
 have A1 := Lib.hid (yv1 g1 hs1)
 have M0 := Lib.hid (zab (zad g1 (below1 (o := .cells (vo ⟨s1, V.out⟩) 32))) K0.out)
 have M1 := Lib.hid (zab (zad g1 (below1 (o := .cells (vo ⟨s1, V.out⟩) 32))) K1.out)
 clear g1 hs1 y0
 have z1 := (za2 M0.out).2.1
 have y1 := (zbn M1.out).2.2.1
 have y2 := A1.out.z1
 obtain ⟨W2, hW2⟩ : ∃ W2, W2 = w1.alloc (.cells (vo ⟨s1, V.out⟩) 32) := ⟨_, rfl⟩
 obtain ⟨bx, hbx⟩ : ∃ bx, bx = w1.heap.size := ⟨_, rfl⟩
 rw [← hW2] at A1 z1 y1 y2
 rw [← hbx] at A1 y2
 have HW2 := Lib.hid hW2
 have HBX := Lib.hid hbx
 have G2 : Hid (Below w.heap.size w W2) := by show Below _ _ _; rw [hW2]; exact zad G1.out below1
 clear hW2 hbx M0 M1
 go_wp2_with (rw [← HW2.out]; rw [← HBX.out])
 refine (HO.out s1 W2 G2.out A1.out.s).mono ?_
 rintro e w3 ⟨u1, u2, rfl, hu1, hu2, g3⟩
 have HU := Lib.hid hu1
 have G3 := Lib.hid (zad G2.out g3)
 clear g3 hu1 hu2 z1 y1 y2
 go_wp2_with fail
 go_ret2
 exact ⟨_, rfl, HU.out, G3.out⟩
theorem yl7 (s t : SlV) (u : Value) (l : List Nd) (v : Vt) (bal : List UInt64) (w : World) (h : SlE Ene w (sv s) l) (h1 : SlE Elt w (sv t) v.l) (h2 : SlE Enum w u bal) :
  Calls Tryz.prog 65 #[.agg (tr ⟨s⟩), .agg (vo ⟨t, v.out⟩), u] w (z1s (ownL l v bal) (fitB l v bal) w) := by
 have hv := ziu h1
 obtain ⟨p, n, cp⟩ := s
 obtain ⟨q, m, cq⟩ := t
 dsimp only at hv
 have k2 := h2
 obtain ⟨r, cr, rfl, _⟩ := zaj h2
 exact z9r p q r n cp m cq _ cr l v bal w h h1 k2 hv
theorem zum (p q r : Option Addr) (n cp m cq k cr : Nat) (l : List Nd) (v : Vt) (bal : List UInt64) (w : World) (h : SlE Ene w (.slice p n cp) l) (h1 : SlE Elt w (.slice q m cq) v.l) (h2 : SlE Enum w (.slice r k cr) bal) :
  Calls Tryz.prog 26 #[.agg (tr ⟨⟨p, n, cp⟩⟩), .agg (vo ⟨⟨q, m, cq⟩, v.out⟩), .slice r k cr] w (NumsOk (wtsL l v bal) (fitB l v bal) w) := by
 have HO := Lib.hid (fun W (g : Below w.heap.size w W) => yl7 ⟨p, n, cp⟩ ⟨q, m, cq⟩ (.slice r k cr) l v bal W (zac g h) (zac g h1) (zac g h2))
 have HS : Hid (fitB l v bal = true → ∀ x W, Below w.heap.size w W → SlE Enum W x (ownL l v bal) → Calls Tryz.prog 66 #[.agg (tr ⟨⟨p, n, cp⟩⟩), x] W (NumsOk (wtsL l v bal) true W)) := fun f x W g hx => by
  have := zt9 ⟨p, n, cp⟩ x l (ownL l v bal) W (zac g h) hx
  rw [yfv f] at this
  rwa [zmj f]
 have HNo : Hid (fitB l v bal = false → wtsL l v bal = []) := fun e => yrf e
 generalize ownL l v bal = A at *
 generalize wtsL l v bal = B at *
 generalize fitB l v bal = f at *
 obtain ⟨W0, hW0⟩ : ∃ W0, W0 = (w.alloc (.cells (tr ⟨⟨p, n, cp⟩⟩) 28)).alloc (.cells (vo ⟨⟨q, m, cq⟩, v.out⟩) 32) := ⟨_, rfl⟩
 obtain ⟨hB, k0, k1, hz0⟩ := zd0 w _ _ _ _ W0 hW0
 have HB := Lib.hid hB
 have HW := Lib.hid hW0
 have K0 := Lib.hid k0
 have z1 := (za2 k0).2.1
 have y1 := (zbn k1).2.2.1
 clear hW0 h h1 h2 hB k0 k1 hz0
 go_enter Tryz.func26, Tryz.ntmps26
 go_wp2_with fail
 rw [← HW.out]
 go_wp2_with fail
 refine (HO.out W0 HB.out).mono ?_
 rintro e w1 ⟨x, rfl, hx, g1⟩
 have HX := Lib.hid hx
 have G1 := Lib.hid (zad HB.out g1)
 have M0 := Lib.hid (zab g1 K0.out)
 clear hx g1 z1 y1
 have z1 := (za2 M0.out).2.1
 cases f
 ·
  have e := HNo.out (by simp)
  subst e
  go_wp2_with fail
  go_ret2
  exact ⟨_, rfl, zbv _ _ _, G1.out⟩
 ·
  go_wp2_with fail
  refine (HS.out (by simp) x w1 G1.out HX.out).mono ?_
  rintro e w2 ⟨y, rfl, hy, g2⟩
  have HY := Lib.hid hy
  have G2 := Lib.hid (zad G1.out g2)
  clear hy g2 z1
  go_wp2_with fail
  go_ret2
  exact ⟨_, rfl, zbi HY.out G1.out.size, G2.out⟩
theorem zn9 (s t : SlV) (u : Value) (l : List Nd) (v : Vt) (bal : List UInt64) (w : World) (h : SlE Ene w (sv s) l) (h1 : SlE Elt w (sv t) v.l) (h2 : SlE Enum w u bal) :
  Calls Tryz.prog 26 #[.agg (tr ⟨s⟩), .agg (vo ⟨t, v.out⟩), u] w (NumsOk (wtsL l v bal) (fitB l v bal) w) := by
 obtain ⟨p, n, cp⟩ := s
 obtain ⟨q, m, cq⟩ := t
 have k2 := h2
 obtain ⟨r, cr, rfl, _⟩ := zaj h2
 exact zum p q r n cp m cq _ cr l v bal w h h1 k2
theorem zpu (s t : SlV) (u : Value) (l : List Nd) (v : Vt) (bal : List UInt64) (w : World) (h : SlE Ene w (sv s) l) (h1 : SlE Elt w (sv t) v.l) (h2 : SlE Enum w u bal) :
  Calls Tryz.prog 26 #[.agg (tr ⟨s⟩), .agg (vo ⟨t, v.out⟩), u] w (z1s (wtsL l v bal) (fitB l v bal) w) := (zn9 s t u l v bal w h h1 h2).mono fun _ _ k => k.is
theorem zwh (x : En) (g : Eg) (w : World) (h : LaidG w x g) (sg : zbz g) :
  Calls Tryz.prog 14 #[.agg (en x)] w fun e w' => e = .returned (.bool (mayG g)) ∧ Below w.heap.size w w' := by
 obtain ⟨W0, hW0⟩ : ∃ W0, W0 = w.alloc (.cells (en x) 39) := ⟨_, rfl⟩
 have A : Hid (Gv w W0 w.heap.size x g) := by show Gv _ _ _ _ _; rw [hW0]; exact zud h
 have HW := Lib.hid hW0
 have H1 := Lib.hid (fun W (l : LaidG W x g) => zpu x.t.n x.v.l (sv x.bal) g.t g.v g.bal W l.t l.v l.bal)
 have H2 := Lib.hid (fun v W (l : LaidG W x g) k => zoo (sv x.w) v g.w (wtsL g.t g.v g.bal) W l.w k sg.w)
 have H3 := Lib.hid (fun W (l : LaidG W x g) => z4l (sv x.k) g.k W l.k)
 have H4 := Lib.hid (fun W (l : LaidG W x g) => z8b x g W l sg)
 have H5 := Lib.hid (fun W (l : LaidG W x g) => z85 x g W l sg)
 have H6 := Lib.hid (fun W (l : LaidG W x g) => ykr x g W l sg)
 have HF := mayE g
 generalize wtsL g.t g.v g.bal = ws at H1 H2 HF
 obtain ⟨b1, hb1⟩ : ∃ b, b = fitB g.t g.v g.bal := ⟨_, rfl⟩
 obtain ⟨b2, hb2⟩ : ∃ b, b = decide (g.w = ws) := ⟨_, rfl⟩
 obtain ⟨b3, hb3⟩ : ∃ b, b = mayL g.k := ⟨_, rfl⟩
 obtain ⟨b4, hb4⟩ : ∃ b, b = zlv g := ⟨_, rfl⟩
 obtain ⟨b5, hb5⟩ : ∃ b, b = zrf g := ⟨_, rfl⟩
 obtain ⟨b6, hb6⟩ : ∃ b, b = zzp g := ⟨_, rfl⟩
 rw [← hb1] at H1 HF
 rw [← hb2] at H2 HF
 rw [← hb3] at H3 HF
 rw [← hb4] at H4 HF
 rw [← hb5] at H5 HF
 rw [← hb6] at H6 HF
 obtain ⟨r, hr⟩ : ∃ r, r = mayG g := ⟨_, rfl⟩
 rw [← hr] at HF ⊢
 replace HF := Lib.hid HF
 clear hW0 h sg hb1 hb2 hb3 hb4 hb5 hb6 hr
 go_enter Tryz.func14, Tryz.ntmps14
 go_upto_region 1 with fail
 rw [← HW.out]
 have zT := A.out.zT
 have zV := A.out.zV
 have zb := A.out.zb
 go_wp2_with fail
 refine (H1.out _ A.out.l).mono ?_
 rintro e w1 ⟨v, rfl, hv, gg⟩
 replace A := Lib.hid (A.out.keep gg)
 have HV := Lib.hid hv
 clear gg hv zT zV zb H1
 cases b1
 ·
  go_wp2_with fail
  go_ret
  exact ⟨by rw [HF.out]; first | done | rfl, A.out.g⟩
 have zw := A.out.zw
 go_wp2_with fail
 refine (H2.out _ _ A.out.l HV.out).mono ?_
 rintro e w2 ⟨rfl, gg⟩
 replace A := Lib.hid (A.out.keep gg)
 clear gg zw H2 HV
 cases b2
 ·
  go_wp2_with fail
  go_ret
  exact ⟨by rw [HF.out]; first | done | rfl, A.out.g⟩
 have zk := A.out.zk
 go_wp2_with fail
 refine (H3.out _ A.out.l).mono ?_
 rintro e w3 ⟨rfl, gg⟩
 replace A := Lib.hid (A.out.keep gg)
 clear gg zk H3
 cases b3
 ·
  go_wp2_with fail
  go_ret
  exact ⟨by rw [HF.out]; first | done | rfl, A.out.g⟩
 have z := A.out.z
 go_wp2_with fail
 refine (H4.out _ A.out.l).mono ?_
 rintro e w4 ⟨rfl, gg⟩
 replace A := Lib.hid (A.out.keep gg)
 clear gg z H4
 cases b4
 ·
  go_wp2_with fail
  go_ret
  exact ⟨by rw [HF.out]; first | done | rfl, A.out.g⟩
 have z := A.out.z
 go_wp2_with fail
 refine (H5.out _ A.out.l).mono ?_
 rintro e w5 ⟨rfl, gg⟩
 replace A := Lib.hid (A.out.keep gg)
 clear gg z H5
 cases b5
 ·
  go_wp2_with fail
  go_ret
  exact ⟨by rw [HF.out]; first | done | rfl, A.out.g⟩
 have z := A.out.z
 go_wp2_with fail
 refine (H6.out _ A.out.l).mono ?_
 rintro e w6 ⟨rfl, gg⟩
 replace A := Lib.hid (A.out.keep gg)
 clear gg z H6
 go_wp2_with fail
 go_ret
 exact ⟨by rw [HF.out]; first | done | rfl, A.out.g⟩
theorem zsj (cf : Nat) (lb : Array Value) (eg : ∀ args w, (callFunc cf args).run Tryz.prog w = .ok (.enter cf args) w) (x : En) (g : Eg) (w : World) (h : LaidG w x g) (sg : zbz g) (F : Eg) (N : Nat)
  (no : mayG g = false → F = g ∧ N = 1) (hd : mayG g = true → ∀ y W, Below w.heap.size w W → OwnG W w.heap.size y g → Calls Tryz.prog cf (#[.agg (en y)] ++ lb) W (EgErB F N w.heap.size W)) :
  Calls Tryz.prog 50 #[.agg (en x), .func (.func cf) #[] lb] w (EgErB F N w.heap.size w) := by
 obtain ⟨W0, hW0⟩ : ∃ W0, W0 = (w.alloc (.cells (en x) 39)).alloc (.cells (en zen) 39) := ⟨_, rfl⟩
 obtain ⟨hB, q0, q2, _⟩ := zd0 w _ _ _ _ W0 hW0
 have A : Hid (Gp w x g (w.heap.size + 1) W0 w.heap.size x g) := zfx h hB q0 ⟨_, q2⟩ (Nat.le_refl _) (by omega) (by omega)
 have HW := Lib.hid hW0
 have HC := Lib.hid (fun W hh => ybz x g W hh sg)
 have HM := Lib.hid (fun W hh => zwh x g W hh sg)
 obtain ⟨my, hmy⟩ : ∃ b, b = mayG g := ⟨_, rfl⟩
 rw [← hmy] at HM no hd
 have HNo := Lib.hid no
 have HD := Lib.hid hd
 obtain ⟨T, hT⟩ : ∃ T, T = w.heap.size := ⟨_, rfl⟩
 obtain ⟨Q, hQ⟩ : ∃ Q, Q = w.heap.size + 1 := ⟨_, rfl⟩
 have HTQ : Hid (T = w.heap.size ∧ Q = w.heap.size + 1) := ⟨hT, hQ⟩
 rw [← hQ, ← hT] at A
 clear hW0 hB q0 q2 h sg no hd hmy
 go_enter Tryz.func50, Tryz.ntmps50
 go_upto_region 1 with fail
 rw [← HW.out, ← hQ, ← hT]
 clear hT hQ
 have z := A.out.s.v.z
 go_wp2_with fail
 refine (HC.out _ A.out.s.l).mono ?_
 rintro e w1 ⟨y, rfl, og, gg⟩
 have HO : Hid (OwnG w1 w.heap.size y g) := og.base A.out.s.bw.size
 replace A := Lib.hid (A.out.keep gg)
 clear gg z og HC
 go_upto_region 2 with fail
 obtain ⟨w2, hw2⟩ : ∃ w2, w2 = w1.alloc (.cells (en y) 39) := ⟨_, rfl⟩
 rw [← hw2]
 have gg : Below w1.heap.size w1 w2 := by rw [hw2]; exact below1
 have X6 : Hid (w2.heap[w1.heap.size]? = some (.cells (en y) 39 (0, 0))) := by show _ = _; rw [hw2]; exact heap_alloc_last _ _
 replace A := Lib.hid (A.out.keep gg)
 replace HO := Lib.hid (HO.out.keep gg)
 obtain ⟨T6, hT6⟩ : ∃ n, n = w1.heap.size := ⟨_, rfl⟩
 rw [← hT6] at X6 ⊢
 clear gg hw2 hT6
 have z := A.out.s.v.z
 go_wp2_with fail
 refine (HM.out _ A.out.s.l).mono ?_
 rintro e w3 ⟨rfl, gg⟩
 replace A := Lib.hid (A.out.keep gg)
 replace HO := Lib.hid (HO.out.keep gg)
 replace X6 := Lib.hid (zab gg X6.out)
 clear gg z HM
 have z6 := zaf X6.out (zas y)
 cases my
 ·
  have HH := Lib.hid (HNo.out rfl)
  have wr := A.out.wrR
  have EE := A.out.eb (Nat.le_refl _) HO.out.laid (Below.refl _ _) (fun U hU => ⟨HO.out.far hU, rfl⟩) 1
  have oo := Lib.hid (A.out.outAll y)
  have HE := Lib.hid EE
  clear EE
  go_wp2_with fail
  rw [HH.out.1, HH.out.2]
  exact bodyPost_ret (zal Tryz.isAgg39 Tryz.sizeOf39 _ 4 5 rfl _ _ _ _ _ rfl rfl oo.out) rfl HE.out
 have HP := Lib.hid (HD.out rfl y w3 A.out.s.bw HO.out)
 clear HD HNo
 go_wp2_with fail
 refine HP.out.mono ?_
 rintro e w4 ⟨v, rfl, ly, gg, fy⟩
 have EE := A.out.eb (Nat.le_refl _) ly gg fy N
 have wr := A.out.ebw fy
 have oo := Lib.hid (A.out.ebo fy)
 have HE := Lib.hid EE
 clear ly gg fy z6 EE HP
 go_wp2_with fail
 exact bodyPost_ret (zal Tryz.isAgg39 Tryz.sizeOf39 _ 4 5 rfl _ _ _ _ _ rfl rfl oo.out) rfl HE.out
end Go.Proofs.YtmihlihlpdkdcaaGreat
