import Derived.Test.YtmihlihlpdkdcaaGreatK17
import Derived.Test.YtmihlihlpdkdcaaGreatK13
import Derived.Deep.Cut
import Derived.Deep.CutRange
import Derived.Deep.RegionLaw
import Derived.Laws.Cover3
import Derived.Test.YtmihlihlpdkdcaaGreatQ08
import Derived.Test.YtmihlihlpdkdcaaGreatQ03
import Derived.Test.YtmihlihlpdkdcaaGreatQ09
import Derived.Test.YtmihlihlpdkdcaaGreatK14
import Derived.Test.YtmihlihlpdkdcaaGreatK11
import Derived.Test.YtmihlihlpdkdcaaGreatK15
namespace Go.Proofs.YtmihlihlpdkdcaaGreat
open Go.RowKit
set_option maxRecDepth 200000
set_option maxHeartbeats 64000000
theorem zbr {α : Type} {E : Lie α} {W : World} {B T o : Nat} {v : Value} {l : List α} (h : OwnE E W B v l) (hT : T < B) (y : Value) : OwnE E (W.setCell ⟨T, o, none⟩ y) B v l := zyh h hT y
def yxx (g : Eg) (w : World) (e : Ending) (w' : World) : Prop := ∃ y : En, e = .returned (.agg (en y)) ∧ OwnG w' w.heap.size y g ∧ Below w.heap.size w w'
theorem ybz (x : En) (g : Eg) (w : World) (h : LaidG w x g) (sg : zbz g) :
  Calls Tryz.prog 81 #[.agg (en x)] w (yxx g w) := by
 obtain ⟨W0, hW0⟩ : ∃ W0, W0 = (w.alloc (.cells (en x) 39)).alloc (.cells (en zen) 39) := ⟨_, rfl⟩
 obtain ⟨hB, q0, q1, hZ⟩ := zd0 w _ _ _ _ W0 hW0
 have HW := Lib.hid hW0
 have HL := Lib.hid h
 have HSg := Lib.hid sg
 obtain ⟨T, hT⟩ : ∃ T, T = w.heap.size := ⟨_, rfl⟩
 obtain ⟨R, hR⟩ : ∃ R, R = w.heap.size + 1 := ⟨_, rfl⟩
 have HTR : Hid ((T = w.heap.size ∧ R = w.heap.size + 1) ∧ W0.heap.size = w.heap.size + 2) := ⟨⟨hT, hR⟩, hZ⟩
 have X : Hid (W0.heap[T]? = some (.cells (en x) 39 (0, 0))) := by show _ = _; rw [hT]; exact q0
 have Y : Hid (W0.heap[R]? = some (.cells (en zen) 39 (0, 0))) := by show _ = _; rw [hR]; exact q1
 have BW : Hid (Below w.heap.size w W0) := hB
 have HO : Hid (x.v.out = g.v.out ∧ x.fin = g.fin ∧ x.now = g.now) := ⟨h.out, h.fin, h.now⟩
 have HZ0 : Hid (W0.heap.size ≤ W0.heap.size) := Nat.le_refl _
 clear hW0 hB q0 q1 hZ h sg
 go_enter Tryz.func81, Tryz.ntmps81
 go_upto_region 1 with fail
 rw [← HW.out, ← hR, ← hT]
 clear hT hR HW
 have HC1 := Lib.hid (z44 x.t.n g.t W0 (zac BW.out HL.out.t) (by have := HSg.out.t; omega))
 have zc := zpb X.out
 try dsimp only at zc
 go_wp2_with fail
 refine HC1.out.mono ?_
 rintro e u1 ⟨y1, rfl, ho, gg⟩
 obtain ⟨s1, rfl⟩ := zil ho
 have zc2 := zpb (zab gg X.out)
 try dsimp only at zc2
 have fz := frozen_of_row u1 T 0 _ _ (zab gg X.out)
 have HT1 : Hid (T < W0.heap.size) := (Array.getElem?_eq_some_iff.1 X.out).1
 have HR1 : Hid (R < W0.heap.size) := (Array.getElem?_eq_some_iff.1 Y.out).1
 obtain ⟨⟨p1, n1, c1⟩, hs1⟩ : ∃ s : SlV, s = s1 := ⟨_, rfl⟩
 rw [← hs1, zat]
 clear zc
 go_upto_region 2 with fail
 obtain ⟨w1, hw1⟩ : ∃ W : World, W = u1.setCell ⟨T, 0, none⟩ (.slice p1 n1 c1) := ⟨_, rfl⟩
 rw [← hw1]
 have hv : (Value.slice p1 n1 c1) = sv s1 := by rw [← hs1]; rfl
 rw [hv] at hw1
 have X2 : Hid (w1.heap[T]? = some (.cells (en ({ x with t := ⟨s1⟩ } : En)) 39 (0, 0))) := by
  show _ = _
  rw [hw1, zaq (zab gg X.out) 0 (sv s1), yap]
 have Y2 : Hid (w1.heap[R]? = some (.cells (en zen) 39 (0, 0))) := by
  show _ = _
  rw [hw1, Below.heap_setCell _ _ _ _ (show R ≠ T by have := HTR.out; omega)]; exact zab gg Y.out
 have BW2 : Hid (Below w.heap.size w w1) := by show Below _ _ _; rw [hw1]; exact (zad BW.out gg).setCell (p := ⟨T, 0, none⟩) (Nat.le_of_eq HTR.out.1.1.symm) _
 have O1 : Hid (OwnE Ene w1 W0.heap.size (sv s1) g.t) := by show OwnE _ _ _ _ _; rw [hw1]; exact zbr ho HT1.out _
 have HZ1 : Hid (W0.heap.size ≤ w1.heap.size) := by show _ ≤ _; rw [hw1]; exact Nat.le_trans (Nat.le_trans HZ0.out gg.size) (zbl _ _)
 replace X := Lib.hid X2.out
 replace Y := Lib.hid Y2.out
 replace BW := Lib.hid BW2.out
 clear X2 Y2 BW2 zc2 fz hv hs1 hw1 gg ho HC1
 have HC2 := Lib.hid (zgb (sv x.bal) g.bal w1 (zac BW.out HL.out.bal) (by have := HSg.out.bal; omega))
 have zc := zou X.out
 try dsimp only at zc
 go_wp2_with fail
 refine HC2.out.mono ?_
 rintro e u2 ⟨y2, rfl, ho, gg⟩
 obtain ⟨s2, rfl⟩ := zil ho
 have zc2 := zou (zab gg X.out)
 try dsimp only at zc2
 have fz := frozen_of_row u2 T 1 _ _ (zab gg X.out)
 have HT2 : Hid (T < w1.heap.size) := (Array.getElem?_eq_some_iff.1 X.out).1
 have HR2 : Hid (R < w1.heap.size) := (Array.getElem?_eq_some_iff.1 Y.out).1
 obtain ⟨⟨p2, n2, c2⟩, hs2⟩ : ∃ s : SlV, s = s2 := ⟨_, rfl⟩
 rw [← hs2, zat]
 clear zc
 go_upto_region 3 with fail
 obtain ⟨w2, hw2⟩ : ∃ W : World, W = u2.setCell ⟨T, 1, none⟩ (.slice p2 n2 c2) := ⟨_, rfl⟩
 rw [← hw2]
 have hv : (Value.slice p2 n2 c2) = sv s2 := by rw [← hs2]; rfl
 rw [hv] at hw2
 have X2 : Hid (w2.heap[T]? = some (.cells (en ({ x with t := ⟨s1⟩, bal := s2 } : En)) 39 (0, 0))) := by
  show _ = _
  rw [hw2, zaq (zab gg X.out) 1 (sv s2), yaz]
 have Y2 : Hid (w2.heap[R]? = some (.cells (en zen) 39 (0, 0))) := by
  show _ = _
  rw [hw2, Below.heap_setCell _ _ _ _ (show R ≠ T by have := HTR.out; omega)]; exact zab gg Y.out
 have BW2 : Hid (Below w.heap.size w w2) := by show Below _ _ _; rw [hw2]; exact (zad BW.out gg).setCell (p := ⟨T, 1, none⟩) (Nat.le_of_eq HTR.out.1.1.symm) _
 have O2 : Hid (OwnE Enum w2 w1.heap.size (sv s2) g.bal) := by show OwnE _ _ _ _ _; rw [hw2]; exact zbr ho HT2.out _
 replace O1 : Hid (OwnE Ene w2 W0.heap.size (sv s1) g.t) := by show OwnE _ _ _ _ _; rw [hw2]; exact zbr (zah gg O1.out) HT1.out _
 have HZ2 : Hid (W0.heap.size ≤ w2.heap.size) := by show _ ≤ _; rw [hw2]; exact Nat.le_trans (Nat.le_trans HZ1.out gg.size) (zbl _ _)
 replace X := Lib.hid X2.out
 replace Y := Lib.hid Y2.out
 replace BW := Lib.hid BW2.out
 clear X2 Y2 BW2 zc2 fz hv hs2 hw2 gg ho HC2
 have HC3 := Lib.hid (yc0 (sv x.v.l) g.v.l w2 (zac BW.out HL.out.v) (by have := HSg.out.v; omega))
 have zc := zoi X.out
 try dsimp only at zc
 go_wp2_with fail
 refine HC3.out.mono ?_
 rintro e u3 ⟨y3, rfl, ho, gg⟩
 obtain ⟨s3, rfl⟩ := zil ho
 have zc2 := zoi (zab gg X.out)
 try dsimp only at zc2
 have fz := frozen_of_row u3 T 2 _ _ (zab gg X.out)
 have HT3 : Hid (T < w2.heap.size) := (Array.getElem?_eq_some_iff.1 X.out).1
 have HR3 : Hid (R < w2.heap.size) := (Array.getElem?_eq_some_iff.1 Y.out).1
 obtain ⟨⟨p3, n3, c3⟩, hs3⟩ : ∃ s : SlV, s = s3 := ⟨_, rfl⟩
 rw [← hs3, zat]
 clear zc
 go_upto_region 4 with fail
 obtain ⟨w3, hw3⟩ : ∃ W : World, W = u3.setCell ⟨T, 2, none⟩ (.slice p3 n3 c3) := ⟨_, rfl⟩
 rw [← hw3]
 have hv : (Value.slice p3 n3 c3) = sv s3 := by rw [← hs3]; rfl
 rw [hv] at hw3
 have X2 : Hid (w3.heap[T]? = some (.cells (en ({ x with t := ⟨s1⟩, bal := s2, v := ⟨s3, x.v.out⟩ } : En)) 39 (0, 0))) := by
  show _ = _
  rw [hw3, zaq (zab gg X.out) 2 (sv s3), z9m]
 have Y2 : Hid (w3.heap[R]? = some (.cells (en zen) 39 (0, 0))) := by
  show _ = _
  rw [hw3, Below.heap_setCell _ _ _ _ (show R ≠ T by have := HTR.out; omega)]; exact zab gg Y.out
 have BW2 : Hid (Below w.heap.size w w3) := by show Below _ _ _; rw [hw3]; exact (zad BW.out gg).setCell (p := ⟨T, 2, none⟩) (Nat.le_of_eq HTR.out.1.1.symm) _
 have O3 : Hid (OwnE Elt w3 w2.heap.size (sv s3) g.v.l) := by show OwnE _ _ _ _ _; rw [hw3]; exact zbr ho HT3.out _
 replace O1 : Hid (OwnE Ene w3 W0.heap.size (sv s1) g.t) := by show OwnE _ _ _ _ _; rw [hw3]; exact zbr (zah gg O1.out) HT1.out _
 replace O2 : Hid (OwnE Enum w3 w1.heap.size (sv s2) g.bal) := by show OwnE _ _ _ _ _; rw [hw3]; exact zbr (zah gg O2.out) HT2.out _
 have HZ3 : Hid (W0.heap.size ≤ w3.heap.size) := by show _ ≤ _; rw [hw3]; exact Nat.le_trans (Nat.le_trans HZ2.out gg.size) (zbl _ _)
 replace X := Lib.hid X2.out
 replace Y := Lib.hid Y2.out
 replace BW := Lib.hid BW2.out
 clear X2 Y2 BW2 zc2 fz hv hs3 hw3 gg ho HC3
 have HS2 : Hid (∀ b, (sv s2).ownBlock = some b → b < w3.heap.size) := fun b hb => (zbm O2.out hb).2
 have HC4 := Lib.hid (zgb (sv x.w) g.w w3 (zac BW.out HL.out.w) (by have := HSg.out.w; omega))
 have zc := zq1 X.out
 try dsimp only at zc
 go_wp2_with fail
 refine HC4.out.mono ?_
 rintro e u4 ⟨y4, rfl, ho, gg⟩
 obtain ⟨s4, rfl⟩ := zil ho
 have zc2 := zq1 (zab gg X.out)
 try dsimp only at zc2
 have fz := frozen_of_row u4 T 4 _ _ (zab gg X.out)
 have HT4 : Hid (T < w3.heap.size) := (Array.getElem?_eq_some_iff.1 X.out).1
 have HR4 : Hid (R < w3.heap.size) := (Array.getElem?_eq_some_iff.1 Y.out).1
 obtain ⟨⟨p4, n4, c4⟩, hs4⟩ : ∃ s : SlV, s = s4 := ⟨_, rfl⟩
 rw [← hs4, zat]
 clear zc
 go_upto_region 5 with fail
 obtain ⟨w4, hw4⟩ : ∃ W : World, W = u4.setCell ⟨T, 4, none⟩ (.slice p4 n4 c4) := ⟨_, rfl⟩
 rw [← hw4]
 have hv : (Value.slice p4 n4 c4) = sv s4 := by rw [← hs4]; rfl
 rw [hv] at hw4
 have X2 : Hid (w4.heap[T]? = some (.cells (en ({ x with t := ⟨s1⟩, bal := s2, v := ⟨s3, x.v.out⟩, w := s4 } : En)) 39 (0, 0))) := by
  show _ = _
  rw [hw4, zaq (zab gg X.out) 4 (sv s4), zx4]
 have Y2 : Hid (w4.heap[R]? = some (.cells (en zen) 39 (0, 0))) := by
  show _ = _
  rw [hw4, Below.heap_setCell _ _ _ _ (show R ≠ T by have := HTR.out; omega)]; exact zab gg Y.out
 have BW2 : Hid (Below w.heap.size w w4) := by show Below _ _ _; rw [hw4]; exact (zad BW.out gg).setCell (p := ⟨T, 4, none⟩) (Nat.le_of_eq HTR.out.1.1.symm) _
 have O4 : Hid (OwnE Enum w4 w3.heap.size (sv s4) g.w) := by show OwnE _ _ _ _ _; rw [hw4]; exact zbr ho HT4.out _
 replace O1 : Hid (OwnE Ene w4 W0.heap.size (sv s1) g.t) := by show OwnE _ _ _ _ _; rw [hw4]; exact zbr (zah gg O1.out) HT1.out _
 replace O2 : Hid (OwnE Enum w4 w1.heap.size (sv s2) g.bal) := by show OwnE _ _ _ _ _; rw [hw4]; exact zbr (zah gg O2.out) HT2.out _
 replace O3 : Hid (OwnE Elt w4 w2.heap.size (sv s3) g.v.l) := by show OwnE _ _ _ _ _; rw [hw4]; exact zbr (zah gg O3.out) HT3.out _
 have HSepP : Hid (∀ b, (sv s4).ownBlock = some b → (sv s2).ownBlock ≠ some b) := fun b hb h2 => by
  have h3 := (zbm O4.out hb).1
  have h4 := HS2.out b h2
  omega
 have HZ4 : Hid (W0.heap.size ≤ w4.heap.size) := by show _ ≤ _; rw [hw4]; exact Nat.le_trans (Nat.le_trans HZ3.out gg.size) (zbl _ _)
 replace X := Lib.hid X2.out
 replace Y := Lib.hid Y2.out
 replace BW := Lib.hid BW2.out
 clear X2 Y2 BW2 zc2 fz hv hs4 hw4 gg ho HC4
 have HC5 := Lib.hid (yse (sv x.late) g.late w4 (zac BW.out HL.out.late) (by have := HSg.out.late; omega))
 have zc := zmc X.out
 try dsimp only at zc
 go_wp2_with fail
 refine HC5.out.mono ?_
 rintro e u5 ⟨y5, rfl, ho, gg⟩
 obtain ⟨s5, rfl⟩ := zil ho
 have zc2 := zmc (zab gg X.out)
 try dsimp only at zc2
 have fz := frozen_of_row u5 T 5 _ _ (zab gg X.out)
 have HT5 : Hid (T < w4.heap.size) := (Array.getElem?_eq_some_iff.1 X.out).1
 have HR5 : Hid (R < w4.heap.size) := (Array.getElem?_eq_some_iff.1 Y.out).1
 obtain ⟨⟨p5, n5, c5⟩, hs5⟩ : ∃ s : SlV, s = s5 := ⟨_, rfl⟩
 rw [← hs5, zat]
 clear zc
 go_upto_region 6 with fail
 obtain ⟨w5, hw5⟩ : ∃ W : World, W = u5.setCell ⟨T, 5, none⟩ (.slice p5 n5 c5) := ⟨_, rfl⟩
 rw [← hw5]
 have hv : (Value.slice p5 n5 c5) = sv s5 := by rw [← hs5]; rfl
 rw [hv] at hw5
 have X2 : Hid (w5.heap[T]? = some (.cells (en ({ x with t := ⟨s1⟩, bal := s2, v := ⟨s3, x.v.out⟩, w := s4, late := s5 } : En)) 39 (0, 0))) := by
  show _ = _
  rw [hw5, zaq (zab gg X.out) 5 (sv s5), zsg]
 have Y2 : Hid (w5.heap[R]? = some (.cells (en zen) 39 (0, 0))) := by
  show _ = _
  rw [hw5, Below.heap_setCell _ _ _ _ (show R ≠ T by have := HTR.out; omega)]; exact zab gg Y.out
 have BW2 : Hid (Below w.heap.size w w5) := by show Below _ _ _; rw [hw5]; exact (zad BW.out gg).setCell (p := ⟨T, 5, none⟩) (Nat.le_of_eq HTR.out.1.1.symm) _
 have O5 : Hid (OwnE Eaa w5 w4.heap.size (sv s5) g.late) := by show OwnE _ _ _ _ _; rw [hw5]; exact zbr ho HT5.out _
 replace O1 : Hid (OwnE Ene w5 W0.heap.size (sv s1) g.t) := by show OwnE _ _ _ _ _; rw [hw5]; exact zbr (zah gg O1.out) HT1.out _
 replace O2 : Hid (OwnE Enum w5 w1.heap.size (sv s2) g.bal) := by show OwnE _ _ _ _ _; rw [hw5]; exact zbr (zah gg O2.out) HT2.out _
 replace O3 : Hid (OwnE Elt w5 w2.heap.size (sv s3) g.v.l) := by show OwnE _ _ _ _ _; rw [hw5]; exact zbr (zah gg O3.out) HT3.out _
 replace O4 : Hid (OwnE Enum w5 w3.heap.size (sv s4) g.w) := by show OwnE _ _ _ _ _; rw [hw5]; exact zbr (zah gg O4.out) HT4.out _
 have HZ5 : Hid (W0.heap.size ≤ w5.heap.size) := by show _ ≤ _; rw [hw5]; exact Nat.le_trans (Nat.le_trans HZ4.out gg.size) (zbl _ _)
 replace X := Lib.hid X2.out
 replace Y := Lib.hid Y2.out
 replace BW := Lib.hid BW2.out
 clear X2 Y2 BW2 zc2 fz hv hs5 hw5 gg ho HC5
 have HC6 := Lib.hid (yc7 (sv x.k) g.k w5 (zac BW.out HL.out.k) (by have := HSg.out.k; omega))
 have zc := zml X.out
 try dsimp only at zc
 go_wp2_with fail
 refine HC6.out.mono ?_
 rintro e u6 ⟨y6, rfl, ho, gg⟩
 obtain ⟨s6, rfl⟩ := zil ho
 have zc2 := zml (zab gg X.out)
 try dsimp only at zc2
 have fz := frozen_of_row u6 T 6 _ _ (zab gg X.out)
 have HT6 : Hid (T < w5.heap.size) := (Array.getElem?_eq_some_iff.1 X.out).1
 have HR6 : Hid (R < w5.heap.size) := (Array.getElem?_eq_some_iff.1 Y.out).1
 obtain ⟨⟨p6, n6, c6⟩, hs6⟩ : ∃ s : SlV, s = s6 := ⟨_, rfl⟩
 rw [← hs6, zat]
 clear zc
 go_upto_region 7 with fail
 obtain ⟨w6, hw6⟩ : ∃ W : World, W = u6.setCell ⟨T, 6, none⟩ (.slice p6 n6 c6) := ⟨_, rfl⟩
 rw [← hw6]
 have hv : (Value.slice p6 n6 c6) = sv s6 := by rw [← hs6]; rfl
 rw [hv] at hw6
 have X2 : Hid (w6.heap[T]? = some (.cells (en ({ x with t := ⟨s1⟩, bal := s2, v := ⟨s3, x.v.out⟩, w := s4, late := s5, k := s6 } : En)) 39 (0, 0))) := by
  show _ = _
  rw [hw6, zaq (zab gg X.out) 6 (sv s6), zzb]
 have Y2 : Hid (w6.heap[R]? = some (.cells (en zen) 39 (0, 0))) := by
  show _ = _
  rw [hw6, Below.heap_setCell _ _ _ _ (show R ≠ T by have := HTR.out; omega)]; exact zab gg Y.out
 have BW2 : Hid (Below w.heap.size w w6) := by show Below _ _ _; rw [hw6]; exact (zad BW.out gg).setCell (p := ⟨T, 6, none⟩) (Nat.le_of_eq HTR.out.1.1.symm) _
 have O6 : Hid (OwnE Elk w6 w5.heap.size (sv s6) g.k) := by show OwnE _ _ _ _ _; rw [hw6]; exact zbr ho HT6.out _
 replace O1 : Hid (OwnE Ene w6 W0.heap.size (sv s1) g.t) := by show OwnE _ _ _ _ _; rw [hw6]; exact zbr (zah gg O1.out) HT1.out _
 replace O2 : Hid (OwnE Enum w6 w1.heap.size (sv s2) g.bal) := by show OwnE _ _ _ _ _; rw [hw6]; exact zbr (zah gg O2.out) HT2.out _
 replace O3 : Hid (OwnE Elt w6 w2.heap.size (sv s3) g.v.l) := by show OwnE _ _ _ _ _; rw [hw6]; exact zbr (zah gg O3.out) HT3.out _
 replace O4 : Hid (OwnE Enum w6 w3.heap.size (sv s4) g.w) := by show OwnE _ _ _ _ _; rw [hw6]; exact zbr (zah gg O4.out) HT4.out _
 replace O5 : Hid (OwnE Eaa w6 w4.heap.size (sv s5) g.late) := by show OwnE _ _ _ _ _; rw [hw6]; exact zbr (zah gg O5.out) HT5.out _
 have HZ6 : Hid (W0.heap.size ≤ w6.heap.size) := by show _ ≤ _; rw [hw6]; exact Nat.le_trans (Nat.le_trans HZ5.out gg.size) (zbl _ _)
 replace X := Lib.hid X2.out
 replace Y := Lib.hid Y2.out
 replace BW := Lib.hid BW2.out
 clear X2 Y2 BW2 zc2 fz hv hs6 hw6 gg ho HC6
 have HC7 := Lib.hid (ycx (sv x.j) g.j w6 (zac BW.out HL.out.j) (by have := HSg.out.j; omega))
 have zc := zny X.out
 try dsimp only at zc
 go_wp2_with fail
 refine HC7.out.mono ?_
 rintro e u7 ⟨y7, rfl, ho, gg⟩
 obtain ⟨s7, rfl⟩ := zil ho
 have zc2 := zny (zab gg X.out)
 try dsimp only at zc2
 have fz := frozen_of_row u7 T 7 _ _ (zab gg X.out)
 have HT7 : Hid (T < w6.heap.size) := (Array.getElem?_eq_some_iff.1 X.out).1
 have HR7 : Hid (R < w6.heap.size) := (Array.getElem?_eq_some_iff.1 Y.out).1
 obtain ⟨⟨p7, n7, c7⟩, hs7⟩ : ∃ s : SlV, s = s7 := ⟨_, rfl⟩
 rw [← hs7, zat]
 clear zc
 go_upto_region 8 with fail
 obtain ⟨w7, hw7⟩ : ∃ W : World, W = u7.setCell ⟨T, 7, none⟩ (.slice p7 n7 c7) := ⟨_, rfl⟩
 rw [← hw7]
 have hv : (Value.slice p7 n7 c7) = sv s7 := by rw [← hs7]; rfl
 rw [hv] at hw7
 have X2 : Hid (w7.heap[T]? = some (.cells (en ({ x with t := ⟨s1⟩, bal := s2, v := ⟨s3, x.v.out⟩, w := s4, late := s5, k := s6, j := s7 } : En)) 39 (0, 0))) := by
  show _ = _
  rw [hw7, zaq (zab gg X.out) 7 (sv s7), zw2]
 have Y2 : Hid (w7.heap[R]? = some (.cells (en zen) 39 (0, 0))) := by
  show _ = _
  rw [hw7, Below.heap_setCell _ _ _ _ (show R ≠ T by have := HTR.out; omega)]; exact zab gg Y.out
 have BW2 : Hid (Below w.heap.size w w7) := by show Below _ _ _; rw [hw7]; exact (zad BW.out gg).setCell (p := ⟨T, 7, none⟩) (Nat.le_of_eq HTR.out.1.1.symm) _
 have O7 : Hid (OwnE Ecc w7 w6.heap.size (sv s7) g.j) := by show OwnE _ _ _ _ _; rw [hw7]; exact zbr ho HT7.out _
 replace O1 : Hid (OwnE Ene w7 W0.heap.size (sv s1) g.t) := by show OwnE _ _ _ _ _; rw [hw7]; exact zbr (zah gg O1.out) HT1.out _
 replace O2 : Hid (OwnE Enum w7 w1.heap.size (sv s2) g.bal) := by show OwnE _ _ _ _ _; rw [hw7]; exact zbr (zah gg O2.out) HT2.out _
 replace O3 : Hid (OwnE Elt w7 w2.heap.size (sv s3) g.v.l) := by show OwnE _ _ _ _ _; rw [hw7]; exact zbr (zah gg O3.out) HT3.out _
 replace O4 : Hid (OwnE Enum w7 w3.heap.size (sv s4) g.w) := by show OwnE _ _ _ _ _; rw [hw7]; exact zbr (zah gg O4.out) HT4.out _
 replace O5 : Hid (OwnE Eaa w7 w4.heap.size (sv s5) g.late) := by show OwnE _ _ _ _ _; rw [hw7]; exact zbr (zah gg O5.out) HT5.out _
 replace O6 : Hid (OwnE Elk w7 w5.heap.size (sv s6) g.k) := by show OwnE _ _ _ _ _; rw [hw7]; exact zbr (zah gg O6.out) HT6.out _
 have HZ7 : Hid (W0.heap.size ≤ w7.heap.size) := by show _ ≤ _; rw [hw7]; exact Nat.le_trans (Nat.le_trans HZ6.out gg.size) (zbl _ _)
 replace X := Lib.hid X2.out
 replace Y := Lib.hid Y2.out
 replace BW := Lib.hid BW2.out
 clear X2 Y2 BW2 zc2 fz hv hs7 hw7 gg ho HC7
 obtain ⟨y, hy⟩ : ∃ y : En, y = ({ x with t := ⟨s1⟩, bal := s2, v := ⟨s3, x.v.out⟩, w := s4, late := s5, k := s6, j := s7 } : En) := ⟨_, rfl⟩
 rw [← hy] at X
 have z := zaf X.out (zas y)
 have wr := za8 Y.out (zas zen)
 have HSep : Hid (∀ b, (sv s4).ownBlock = some b → (sv s2).ownBlock ≠ some b) := HSepP.out
 have OG : Hid (OwnG w7 W0.heap.size y g) := by
  show OwnG _ _ _ _
  rw [hy]
  exact ⟨O1.out, zbi O2.out HZ1.out, zbi O3.out HZ2.out, zbi O4.out HZ3.out, zbi O5.out HZ4.out, zbi O6.out HZ5.out, zbi O7.out HZ6.out, HO.out.1, HO.out.2.1, HO.out.2.2, HSep.out⟩
 clear hy O1 O2 O3 O4 O5 O6 O7
 go_wp2_with fail
 have HRb : R < W0.heap.size := by have := HTR.out; omega
 have OG2 : OwnG (stA w7 (.pointer (some ⟨R, 0, none⟩)) (.agg (en y))) W0.heap.size y g :=
  ⟨zd7 OG.out.t HRb, zd7 OG.out.bal HRb, zd7 OG.out.v HRb, zd7 OG.out.w HRb, zd7 OG.out.late HRb, zd7 OG.out.k HRb, zd7 OG.out.j HRb, OG.out.out, OG.out.fin, OG.out.now, OG.out.sep⟩
 exact bodyPost_ret (zcf Tryz.isAgg39 Tryz.sizeOf39 _ 2 rfl _ _ _ _ rfl (zaf (zby Y.out (by rw [zas, zas])) (zas y))) rfl ⟨y, rfl, OG2.base (by have := HTR.out; omega), zav BW.out (by have := HTR.out; omega)⟩
def zb2 (l : List Nd) : List Rt := l.map Nd.root
def zfq (l : List Lt) : List Rt := (l.filter fun x => x.has).map Lt.root
def zju (l : List Lk) : List Rt := l.flatMap fun k => [k.s.root, k.t.root]
def zxw (g : Eg) : List Rt := zfq g.v.l ++ zju g.k ++ g.j.map Ck.root
def zlv (g : Eg) : Bool := (decide (g.now.toNat ≤ 1099511627776) && mayA g.late) && decide ((dueL g.late g.now.toNat).length = 0)
def zrf (g : Eg) : Bool := decide (∀ r, r ∈ zxw g → r ∈ zb2 g.t)
def z35 (g : Eg) : Bool := decide ((zda g.t g.k g.bal g.j).length = g.j.length) && decide (zha g.t g.k g.bal g.j g.fin = g.fin)
def zzp (g : Eg) : Bool := (decide (g.fin ∈ g.j) && decide (g.j.Nodup)) && z35 g
theorem z52 (l : List Nd) (ls : List Lk) (bal : List UInt64) (js : List Ck) : (zda l ls bal js).length = js.length ↔ zda l ls bal js = js := by
 refine ⟨fun e => ?_, fun e => by rw [e]⟩
 unfold zda at *
 split
 ·
  rename_i ht
  rw [if_pos ht] at e
  obtain ⟨ext, h, _⟩ := zv0 (cnt := cntB l bal) (ls := ls) ls.length js
  unfold ztv at *
  rw [h] at e ⊢
  rw [List.length_append] at e
  rw [List.length_eq_zero_iff.1 (by omega : ext.length = 0), List.append_nil]
 ·
  rfl
theorem zke {l : List Nd} (h : MayT l) (r : Rt) : r ∈ zb2 l ↔ inT l r = true := by
 rw [z45 h]
 unfold zb2
 rw [List.mem_map]
 constructor
 ·
  rintro ⟨a, ha, rfl⟩
  obtain ⟨i, hi, rfl⟩ := List.getElem_of_mem ha
  exact ⟨i, hi, by unfold nd; rw [List.getD_eq_getElem?_getD, List.getElem?_eq_getElem hi]; rfl⟩
 ·
  rintro ⟨i, hi, rfl⟩
  exact ⟨l[i], List.getElem_mem hi, by unfold nd; rw [List.getD_eq_getElem?_getD, List.getElem?_eq_getElem hi]; rfl⟩
theorem zyy {l : List Lt} {i : Nat} (hi : i < l.length) : lat l i = l[i] := by unfold lat; rw [List.getD_eq_getElem?_getD, List.getElem?_eq_getElem hi]; rfl
theorem zjq {g : Eg} {r : Rt} : r ∈ zxw g ↔ (∃ i, i < g.v.l.length ∧ (lat g.v.l i).has = true ∧ (lat g.v.l i).root = r) ∨ (∃ x, x ∈ g.k ∧ (x.s.root = r ∨ x.t.root = r)) ∨ ∃ c, c ∈ g.j ∧ c.root = r := by
 unfold zxw zfq zju
 rw [List.append_assoc, List.mem_append, List.mem_append, List.mem_map, List.mem_flatMap, List.mem_map]
 refine or_congr ?_ (or_congr ?_ Iff.rfl)
 ·
  constructor
  ·
   rintro ⟨x, hx, rfl⟩
   obtain ⟨h1, h2⟩ := List.mem_filter.1 hx
   obtain ⟨i, hi, rfl⟩ := List.getElem_of_mem h1
   exact ⟨i, hi, by rw [zyy hi]; exact h2, by rw [zyy hi]⟩
  ·
   rintro ⟨i, hi, h1, rfl⟩
   rw [zyy hi] at h1 ⊢
   exact ⟨_, List.mem_filter.2 ⟨List.getElem_mem hi, h1⟩, rfl⟩
 ·
  constructor
  ·
   rintro ⟨x, hx, h⟩
   simp only [List.mem_cons, List.not_mem_nil, or_false] at h
   exact ⟨x, hx, h.imp Eq.symm Eq.symm⟩
  ·
   rintro ⟨x, hx, h⟩
   exact ⟨x, hx, by simp only [List.mem_cons, List.not_mem_nil, or_false]; exact h.imp Eq.symm Eq.symm⟩
theorem z6a {l : List Aa} {n : Nat} : (dueL l n).length = 0 ↔ ∀ a, a ∈ l → n ≤ a.slot.toNat := by
 rw [List.length_eq_zero_iff]
 unfold dueL
 rw [List.filter_eq_nil_iff]
 constructor
 ·
  intro h a ha
  have := h a ha
  unfold zqe at this
  rw [decide_eq_true_iff] at this
  omega
 ·
  intro h a ha
  have := h a ha
  unfold zqe
  rw [decide_eq_true_iff]
  omega
theorem mayE (g : Eg) : mayG g = (((((fitB g.t g.v g.bal && decide (g.w = wtsL g.t g.v g.bal)) && mayL g.k) && zlv g) && zrf g) && zzp g) := by
 rw [Bool.eq_iff_iff, zdu]
 unfold zlv zrf zzp z35
 simp only [Bool.and_eq_true, decide_eq_true_iff]
 constructor
 ·
  intro h
  refine ⟨⟨⟨⟨⟨h.fit, h.w⟩, h.k⟩, ⟨h.now, h.late⟩, z6a.2 h.slots⟩, fun r hr => ?_⟩, ⟨h.fin, h.nod⟩, (z52 _ _ _ _).2 h.more, h.next⟩
  rw [zke h.t]
  rcases zjq.1 hr with ⟨i, hi, h1, rfl⟩ | ⟨x, hx, rfl | rfl⟩ | ⟨c, hc, rfl⟩
  ·
   exact h.inV i hi h1
  ·
   exact (h.inK x hx).1
  ·
   exact (h.inK x hx).2
  ·
   exact h.inJ c hc
 ·
  rintro ⟨⟨⟨⟨⟨h1, h2⟩, h3⟩, ⟨h4, h5⟩, h6⟩, h7⟩, ⟨h8, h9⟩, h10, h11⟩
  obtain ⟨f1, f2, f3, f4⟩ := zfd.1 h1
  have hin : ∀ r, r ∈ zxw g → inT g.t r = true := fun r hr => (zke f1 r).1 (h7 r hr)
  exact ⟨f1, f3, f2, h5, h3, f4, h4, h2, z6a.1 h6, h8, h9, fun c hc => hin _ (zjq.2 (.inr (.inr ⟨c, hc, rfl⟩))), fun i hi e => hin _ (zjq.2 (.inl ⟨i, hi, e, rfl⟩)),
   fun x hx => ⟨hin _ (zjq.2 (.inr (.inl ⟨x, hx, .inl rfl⟩))), hin _ (zjq.2 (.inr (.inl ⟨x, hx, .inr rfl⟩)))⟩, (z52 _ _ _ _).1 h10, h11⟩
section
open Go.RowKit
theorem yrv : (Tryz.prog.info? 23).map (fun i => (i.zero, i.size, i.bytes)) = some (some (.agg (rc zr)), 32, 32) := by kernel_rfl
theorem Krt : Known Tryz.prog Ert 117 := ⟨Tryz.underlying117, .agg (rc zr), 32, yrv, by show ((rc zr)).size = _; exact zar _, by decide⟩
section
open Go.WideShapes Go.ChangeShapes
variable {H : Type} {enc : TypeId × Value → H} {w : World} {base : Nat} {sp : Nat → Bool} {held : Bool}
end
end
@[go_sem ↓] theorem yko (ρ : Operand → Value) (dst : Option Tmp) (x : Operand) (ty : TypeId) (pos : String) (after : Array Edge) (guard : Option (Nat × Bool)) (w : World) (hx : okA 32 (ρ x) = true) :
  (execOp ρ { dst, op := .buildSlice 117 1 #[(0, x)], type := ty, pos, after, guard }).run Tryz.prog w = .ok (.value (.slice (some ⟨w.heap.size, 0, none⟩) 1 1)) (w.alloc (.cells (zfz (ρ x)) 23)) := by
 obtain ⟨c, hc, hn⟩ : ∃ c, ρ x = .agg c ∧ c.size = 32 := by
  unfold okA at hx
  split at hx
  ·
   rename_i c hc
   rw [Bool.and_eq_true, beq_iff_eq] at hx
   exact ⟨c, hc, hx.1⟩
  ·
   cases hx
 have hp : (1 * 32 > 2 ^ 24) = False := by simp
 have h0 : (1 * 32 = 0) = False := by simp
 unfold execOp
 simp only [Instr.buildSlice, Sem.run_bind, run_underlying Tryz.underlying117, Result.andThen_ok, Tryz.sizeOf23, hp, h0, if_false, znz, Value.cells]
 simp only [List.map_toArray, List.map_cons, List.map_nil, hc, Instr.fill, Value.cells, hn, Nat.zero_mul]
 simp [zfz]
 rw [zj6 _ c (by simp [hn])]
 rfl
theorem z4h (w : World) (x : Rt) (b : Nat) (hb : b = w.heap.size) : SlE Ert (w.alloc (.cells (rc x) 23)) (.slice (some ⟨b, 0, none⟩) 1 1) [x] :=
 ze9 w _ 1 _ _ b rfl hb (by simp [zan, Ert])
def rtA (l : List Rt) (i : Nat) : Rt := l.getD i zr
theorem z0s {l : List Rt} {i : Nat} (h : i < l.length) : rtA l i = l[i] := by unfold rtA; simp [h]
theorem ycb {w : World} {p : Option Addr} {n cp : Nat} {l : List Rt} (h : SlE Ert w (.slice p n cp) l) (h0 : 0 < l.length) : ∃ b o, p = some ⟨b, o, none⟩ ∧ b < w.heap.size ∧ w.rangeAt b o (zan Ert l) := by
 obtain ⟨b, o, c, e, _, q, x⟩ := zc8 h h0
 injection e with e1 e2 e3
 exact ⟨b, o, e1, q, x⟩
theorem yop {w : World} {b off : Nat} {l : List Rt} (h : w.rangeAt b off (zan Ert l)) {i : Nat} (hi : i < l.length) : ldA w (.pointer (some ⟨b, off + i * 32, none⟩)) 32 = some (rc (rtA l i)) := by
 have := ztn h hi
 rw [z0s hi]
 exact this
theorem yqw {l : List Rt} {x : Rt} {j : Nat} (hj : j < l.length) (h : x ∉ l.take j) (hx : ¬ x = rtA l j) : x ∉ l.take (j + 1) := by
 rw [List.take_succ_eq_append_getElem hj, List.mem_append, List.mem_singleton, not_or]
 rw [z0s hj] at hx
 exact ⟨h, hx⟩
theorem yq0 (p : Option Addr) (n cp : Nat) (l : List Rt) (x : Rt) (w : World) (h : SlE Ert w (.slice p n cp) l) (hl : l.length = n) (hn : n ≤ 9000) :
  Calls Tryz.prog 105 #[.slice p n cp, .agg (rc x)] w fun e w' => ∃ r : Int, e = .returned (.int .i64 r) ∧ decide (0 ≤ r) = decide (x ∈ l) ∧ Below w.heap.size w w' := by
 have HS := Lib.hid h
 have HL := Lib.hid hl
 have HN := Lib.hid hn
 obtain ⟨W0, hW0⟩ : ∃ W0, W0 = w.alloc (.cells (rc x) 23) := ⟨_, rfl⟩
 have HB : Hid (Below w.heap.size w W0) := by rw [hW0]; exact below1
 have M0 : Hid (ldA W0 (.pointer (some ⟨w.heap.size, 0, none⟩)) 32 = some (rc x)) := by rw [hW0]; exact zaf (heap_alloc_last w _) (zar x)
 have HW := Lib.hid hW0
 clear h hl hn hW0
 go_enter Tryz.func105, Tryz.ntmps105
 go_upto_region 1 with fail
 rw [← HW.out]
 go_wp2_with fail
 go_loopw [8] (fun k wr => ∃ j : Nat, j ≤ n ∧ k = .int .i64 (j : Int) ∧ x ∉ l.take j ∧ Below W0.heap.size W0 wr) (fun k _ => n - (intOf k).toNat)
 case atStart => exact ⟨0, Nat.zero_le _, rfl, by simp, Below.refl _ _⟩
 case round =>
  obtain ⟨j, hj, rfl, hx, hb⟩ := hrel
  have HX := Lib.hid hx
  have HG := Lib.hid (zad HB.out hb)
  have y0 := keep hb M0.out
  have HB2 := Lib.hid hb
  clear hx hb
  by_cases hlt : j < n
  ·
   obtain ⟨b1, o1, rfl, q1, x1⟩ := ycb HS.out (by have := HL.out; omega)
   have y1 : ldA wr (.pointer (some ⟨b1, o1 + j * 32, none⟩)) 32 = some (rc (rtA l j)) := keep HG.out (yop x1 (by have := HL.out; omega))
   have i0 : (0 : Int) ≤ (j : Int) := by omega
   have i1 : (j : Int) < (n : Int) := by omega
   have u1 : (j : Int) + 1 < 10000 := by have := HN.out; omega
   have HLT := Lib.hid hlt
   obtain ⟨z, hz⟩ : ∃ z, z = rtA l j := ⟨_, rfl⟩
   rw [← hz] at y1
   have HZ := Lib.hid hz
   clear hlt q1 x1 hz
   by_cases he : x = z
   ·
    have t1 : eqB x z = true := (yib _ _).2 he
    have hX : Hid (decide (0 ≤ (j : Int)) = decide (x ∈ l)) := by
     show _ = _
     rw [decide_eq_true (by omega)]
     refine (decide_eq_true ?_).symm
     rw [he, HZ.out, z0s (by have := HL.out; have := HLT.out; omega)]
     exact List.getElem_mem _
    clear he
    go_wp2_with fail
    go_quiet (fail)
    go_wp2_with fail
    go_ret
    exact ⟨_, rfl, hX.out, zap HG.out _⟩
   ·
    have t1 : eqB x z = false := by rw [Bool.eq_false_iff]; exact fun e => he ((yib _ _).1 e)
    have HE := Lib.hid (yqw (by have := HL.out; have := HLT.out; omega) HX.out (by rw [← HZ.out]; exact he))
    clear he
    go_wp2_with fail
    go_quiet (fail)
    go_wp2_with fail
    go_roundw
    case rel => exact ⟨j + 1, HLT.out, by go_num, HE.out, zap HB2.out _⟩
    case measure => simp [intOf]; have := HLT.out; omega
  ·
   obtain rfl : j = n := by omega
   have hX : Hid (decide ((0 : Int) ≤ -1) = decide (x ∈ l)) := by
    show _ = _
    rw [decide_eq_false (by omega)]
    refine (decide_eq_false ?_).symm
    have := HX.out
    rwa [List.take_of_length_le (by have := HL.out; omega)] at this
   clear hlt
   go_wp2_with fail
   go_ret
   exact ⟨_, rfl, hX.out, HG.out⟩
theorem zpm (v : Value) (l : List Rt) (x : Rt) (w : World) (h : SlE Ert w v l) (hn : l.length ≤ 9000) :
  Calls Tryz.prog 78 #[v, .agg (rc x)] w fun e w' => e = .returned (.bool (decide (x ∈ l))) ∧ Below w.heap.size w w' := by
 obtain ⟨p, cp, rfl, _⟩ := zaj h
 obtain ⟨n, hl⟩ : ∃ n, l.length = n := ⟨_, rfl⟩
 rw [hl] at h hn ⊢
 have HC := Lib.hid (fun W (g : Below w.heap.size w W) => yq0 p n cp l x W (zac g h) hl hn)
 obtain ⟨res, hres⟩ : ∃ res, res = decide (x ∈ l) := ⟨_, rfl⟩
 rw [← hres]
 rw [← hres] at HC
 obtain ⟨W0, hW0⟩ : ∃ W0, W0 = w.alloc (.cells (rc x) 23) := ⟨_, rfl⟩
 have HB : Hid (Below w.heap.size w W0) := by rw [hW0]; exact below1
 have y0 : ldA W0 (.pointer (some ⟨w.heap.size, 0, none⟩)) 32 = some (rc x) := by rw [hW0]; exact zaf (heap_alloc_last w _) (zar x)
 have HW := Lib.hid hW0
 clear h hl hn hres hW0
 go_enter Tryz.func78, Tryz.ntmps78
 go_upto_region 1 with fail
 rw [← HW.out]
 go_wp2_with fail
 refine (HC.out _ HB.out).mono ?_
 rintro e w1 ⟨r, rfl, hr, g⟩
 have G := Lib.hid (zad HB.out g)
 have HR := Lib.hid hr
 obtain ⟨q, hq⟩ : ∃ q, q = decide (0 ≤ r) := ⟨_, rfl⟩
 have t1 : decide (0 ≤ r) = q := hq.symm
 have HQ : Hid (q = res) := hq.trans hr
 clear g hr hq HR y0
 go_wp2_with fail
 go_ret
 exact ⟨by rw [← HQ.out]; first | done | rfl, G.out⟩
theorem z5p {l : List Nd} {k : Nat} (h : k < l.length) : zb2 (l.take (k + 1)) = zb2 (l.take k) ++ [(nd l k).root] := ybr h
theorem zh0 (l : List Nd) : (zb2 l).length = l.length := List.length_map ..
def ys0 (L : List Rt) (w : World) (e : Ending) (w' : World) : Prop := ∃ v, e = .returned v ∧ OwnE Ert w' w.heap.size v L ∧ Below w.heap.size w w'
theorem zwz (p : Option Addr) (n cp : Nat) (l : List Nd) (w : World) (h : SlE Ene w (.slice p n cp) l) (hl : l.length = n) (hn : n ≤ 1000) :
  Calls Tryz.prog 76 #[.agg (tr ⟨⟨p, n, cp⟩⟩)] w (ys0 (zb2 l) w) := by
 have HS := Lib.hid h
 have HL := Lib.hid hl
 have HN := Lib.hid hn
 obtain ⟨W0, hW0⟩ : ∃ W0, W0 = w.alloc (.cells (tr ⟨⟨p, n, cp⟩⟩) 28) := ⟨_, rfl⟩
 have HB : Hid (Below w.heap.size w W0) := by rw [hW0]; exact below1
 have M0 : Hid (W0.heap[w.heap.size]? = some (.cells (tr ⟨⟨p, n, cp⟩⟩) 28 (0, 0))) := by rw [hW0]; exact heap_alloc_last w _
 have HW := Lib.hid hW0
 clear h hl hn hW0
 go_enter Tryz.func76, Tryz.ntmps76
 go_upto_region 1 with fail
 rw [← HW.out]
 have y0 := (za2 M0.out).1
 dsimp only at y0
 rw [zat] at y0
 go_wp2_with fail
 clear y0
 go_loopw [3, 9] (fun kv i wr => ∃ k : Nat, k ≤ n ∧ i = .int .i64 (k : Int) ∧ OwnE Ert wr W0.heap.size kv (zb2 (l.take k)) ∧ Below W0.heap.size W0 wr) (fun _ i _ => n - (intOf i).toNat)
 case atStart => exact ⟨0, Nat.zero_le _, rfl, zbv _ _ _, Below.refl _ _⟩
 case round =>
  obtain ⟨k, hk, rfl, ho, hb⟩ := hrel
  have HO := Lib.hid ho
  have HG := Lib.hid hb
  clear ho hb
  by_cases hlt : k < n
  ·
   have HK := Lib.hid hlt
   have i0 : (0 : Int) ≤ (k : Int) := by omega
   have i1 : (k : Int) < (n : Int) := by omega
   have u1 : (k : Int) + 1 < 10000 := by have := HN.out; omega
   obtain ⟨b1, o1, rfl, q1, x1⟩ := zf4 (zac (zad HB.out HG.out) HS.out) (by rw [HL.out]; omega)
   have y1 := zwp x1 (i := k) (by rw [HL.out]; exact hlt)
   have HTk := Lib.hid (z5p (l := l) (k := k) (by rw [HL.out]; exact hlt))
   have HLk : Hid ((zb2 (l.take k)).length ≤ 1000) := by show _ ≤ _; rw [zh0, List.length_take]; have := HL.out; have := HN.out; omega
   obtain ⟨m, hm⟩ : ∃ m, m = nd l k := ⟨_, rfl⟩
   rw [← hm] at y1 HTk
   clear hlt q1 x1 hm
   go_upto_region 5 with fail
   obtain ⟨V, hV⟩ : ∃ V, V = wr.alloc (.cells (ne m) 57) := ⟨_, rfl⟩
   rw [← hV]
   have g5 : Below wr.heap.size wr V := by rw [hV]; exact below1
   have z1 := zly (show V.heap[wr.heap.size]? = some (.cells (ne m) 57 (0, 0)) from by rw [hV]; exact heap_alloc_last wr _)
   have HO1 := Lib.hid (zah g5 HO.out)
   have HG1 : Hid (Below W0.heap.size W0 V) := zad HG.out g5
   clear hV g5 y1
   go_wp2_with (at_builtin; refine zbs Krt _ rfl _ (.tmp 16) rfl W0.heap.size _ (zb2 (l.take k)) rfl (za6 HO1.out _) _ [m.root] rfl (z4h _ _ _ rfl) (by have := HLk.out; simp; omega) (by have := HG1.out.size; simp; omega) ?_; intro v2 w2 ho2 hg2; have HO2 : Hid (OwnE Ert w2 W0.heap.size v2 (zb2 (l.take (k + 1)))) := (by show OwnE _ _ _ _ _; rw [HTk.out]; exact ho2); have HB2 : Hid (Below W0.heap.size W0 w2) := HG1.out.trans ((Gr.alloc hg2).own HO1.out HG1.out.size); clear ho2 hg2)
   clear z1
   go_roundw
   case rel => exact ⟨k + 1, HK.out, by go_num, HO2.out, HB2.out⟩
   case measure => simp [intOf]; have := HK.out; omega
  ·
   obtain rfl : k = n := by omega
   clear hlt
   have HO2 : OwnE Ert wr W0.heap.size u3 (zb2 l) := by
    have := HO.out
    rwa [← HL.out, List.take_length] at this
   have HR := Lib.hid HO2
   clear HO2
   go_wp2_with fail
   go_ret
   exact ⟨_, rfl, zbi HR.out HB.out.size, zad HB.out HG.out⟩
theorem zsv (s : SlV) (l : List Nd) (w : World) (h : SlE Ene w (sv s) l) (hn : l.length ≤ 1000) :
  Calls Tryz.prog 76 #[.agg (tr ⟨s⟩)] w (ys0 (zb2 l) w) := by
 have hs := zdm h
 obtain ⟨p, n, cp⟩ := s
 dsimp only at hs
 subst hs
 exact zwz p _ cp l w h rfl hn
def beyA (x : Aa) : Bool := decide (1099511627776 < x.slot.toNat)
theorem zvq (x : Aa) (w : World) : Calls Tryz.prog 104 #[.agg (aa x)] w fun e w' => e = .returned (.bool (beyA x)) ∧ Below w.heap.size w w' := by
 obtain ⟨W, hW⟩ : ∃ W, W = w.alloc (.cells (aa x) 62) := ⟨_, rfl⟩
 have hx : W.heap[w.heap.size]? = some (.cells (aa x) 62 (0, 0)) := by rw [hW]; exact heap_alloc_last w _
 have HB : Hid (Below w.heap.size w W) := by rw [hW]; exact below1
 have z := zih hx
 unfold num at z
 obtain ⟨b, hb⟩ : ∃ b, b = beyA x := ⟨_, rfl⟩
 rw [← hb]
 obtain ⟨y, hy⟩ : ∃ y, y = x.slot.toNat := ⟨_, rfl⟩
 rw [← hy] at z
 have t0 : decide ((1099511627776 : Int) < (y : Int)) = b := by rw [hb]; unfold beyA; rw [← hy]; exact decide_eq_decide.2 (by omega)
 have t1 : decide (1099511627776 < y) = b := by rw [hb]; unfold beyA; rw [← hy]
 have HW := Lib.hid hW
 clear hx hW hb hy
 go_enter Tryz.func104, Tryz.ntmps104
 go_upto_region 1 with fail
 rw [← HW.out]
 go_wp2_with fail
 go_ret
 exact ⟨by first | rfl | simp [t1], HB.out⟩
theorem zpf : ∀ args w, (callFunc 104 args).run Tryz.prog w = .ok (.enter 104 args) w := zbb Tryz.func104 (by kernel_rfl) (by kernel_rfl)
structure yx9 (pr : Nat → Bool) (n : Nat) (i : Int) : Prop where
 none : i < 0 → ∀ j, j < n → pr j = false
 some : 0 ≤ i → ∃ j, j < n ∧ pr j = true
theorem yrt (g : Nat) (lb : Array Value) (eg : ∀ args w, (callFunc g args).run Tryz.prog w = .ok (.enter g args) w) (pr : Nat → Bool) (p : Option Addr) (n cp : Nat) (l : List Aa) (w : World) (h : SlE Eaa w (.slice p n cp) l) (hl : l.length = n) (hn : n ≤ 1000)
  (hp : ∀ (k : Nat) (W : World), k < n → Below w.heap.size w W → Calls Tryz.prog g (#[.agg (aa (att l k))] ++ lb) W fun e W' => e = .returned (.bool (pr k)) ∧ Below W.heap.size W W') :
  Calls Tryz.prog 129 #[.slice p n cp, .func (.func g) #[] lb] w fun e w' => (∃ i, e = .returned (.int .i64 i) ∧ yx9 pr n i) ∧ Below w.heap.size w w' := by
 have HS := Lib.hid h
 have HL := Lib.hid hl
 have HN := Lib.hid hn
 have HP := Lib.hid hp
 clear h hl hn hp
 go_enter Tryz.func129, Tryz.ntmps129
 go_wp2_with fail
 go_loopw [5, 8] (fun _ k wr => ∃ j : Nat, j ≤ n ∧ k = .int .i64 (j : Int) ∧ (∀ x, x < j → pr x = false) ∧ Below w.heap.size w wr) (fun _ k _ => n - (intOf k).toNat)
 case atStart => exact ⟨0, Nat.zero_le _, rfl, fun x hx => absurd hx (Nat.not_lt_zero _), Below.refl _ _⟩
 case round =>
  obtain ⟨j, hj, rfl, hx, hb⟩ := hrel
  have HX := Lib.hid hx
  have HB := Lib.hid hb
  clear hx hb
  by_cases hlt : j < n
  ·
   obtain ⟨b1, o1, rfl, q1, x1⟩ := zyw HS.out (by have := HL.out; omega)
   have y1 := zs4 (zhd HB.out x1) (i := j) (by have := HL.out; omega)
   have i0 : (0 : Int) ≤ (j : Int) := by omega
   have i1 : (j : Int) < (n : Int) := by omega
   have u1 : (j : Int) + 1 < 10000 := by have := HN.out; omega
   have HLT := Lib.hid hlt
   have HQ := Lib.hid (HP.out j wr hlt HB.out)
   obtain ⟨x, hx⟩ : ∃ x, x = att l j := ⟨_, rfl⟩
   rw [← hx] at y1 HQ
   obtain ⟨r, hr⟩ : ∃ r, r = pr j := ⟨_, rfl⟩
   rw [← hr] at HQ
   have HR := Lib.hid hr.symm
   clear hlt q1 x1 hx hr
   go_wp2_with fail
   refine HQ.out.mono ?_
   rintro e w2 ⟨rfl, g2⟩
   have G2 := Lib.hid (zad HB.out g2)
   clear g2 y1
   cases r
   ·
    go_wp2_with fail
    go_roundw
    case rel => exact ⟨j + 1, HLT.out, by go_num, (fun x hx => by
     rcases Nat.lt_succ_iff_lt_or_eq.1 hx with h | rfl
     ·
      exact HX.out x h
     ·
      exact HR.out), G2.out⟩
    case measure => simp [intOf]; have := HLT.out; omega
   ·
    go_wp2_with fail
    go_ret
    exact ⟨⟨_, rfl, ⟨fun h => absurd h (by omega), fun _ => ⟨j, HLT.out, HR.out⟩⟩⟩, G2.out⟩
  ·
   obtain rfl : j = n := by omega
   clear hlt
   go_wp2_with fail
   go_ret
   exact ⟨⟨_, rfl, ⟨fun _ => HX.out, fun h => absurd h (by omega)⟩⟩, HB.out⟩
def zlj (l : List Aa) : Bool := l.any beyA
theorem yew {l : List Aa} (h : ∀ j, j < l.length → beyA (att l j) = false) : zlj l = false := by
 unfold zlj
 rw [List.any_eq_false]
 intro x hx
 obtain ⟨i, hi, rfl⟩ := List.getElem_of_mem hx
 have := h i hi
 rw [znt hi] at this
 simp [this]
theorem z8q {l : List Aa} {j : Nat} (hj : j < l.length) (h : beyA (att l j) = true) : zlj l = true := by
 unfold zlj
 rw [List.any_eq_true]
 rw [znt hj] at h
 exact ⟨_, List.getElem_mem hj, h⟩
theorem z66 (l : List Aa) : mayA l = (decide (l.length ≤ 6) && !zlj l) := by
 rw [Bool.eq_iff_iff, zdy, Bool.and_eq_true, decide_eq_true_iff, Bool.not_eq_true', zlj, List.any_eq_false]
 refine and_congr Iff.rfl (forall_congr' fun x => forall_congr' fun _ => ?_)
 unfold beyA
 rw [decide_eq_true_iff]
 omega
theorem z47 (p : Option Addr) (n cp : Nat) (l : List Aa) (w : World) (h : SlE Eaa w (.slice p n cp) l) (hl : l.length = n) (hn : n ≤ 1000) :
  Calls Tryz.prog 103 #[.slice p n cp, .func (.func 104) #[] #[]] w fun e w' => e = .returned (.bool (zlj l)) ∧ Below w.heap.size w w' := by
 have HI := Lib.hid (yrt 104 #[] zpf (fun k => beyA (att l k)) p n cp l w h hl hn (fun k W _ _ => zvq _ W))
 have HL := Lib.hid hl
 clear h hl hn
 go_enter Tryz.func103, Tryz.ntmps103
 go_wp2_with fail
 refine HI.out.mono ?_
 rintro e w1 ⟨⟨i, rfl, hi⟩, g⟩
 by_cases h0 : 0 ≤ i
 ·
  have t0 : decide ((0 : Int) ≤ i) = true := decide_eq_true h0
  have HF : Hid (zlj l = true) := by
   obtain ⟨j, hj, e⟩ := hi.some h0
   exact z8q (by rw [HL.out]; exact hj) e
  have HG := Lib.hid g
  clear hi g
  go_wp2_with fail
  go_ret
  exact ⟨by rw [HF.out]; first | done | rfl, HG.out⟩
 ·
  have t0 : decide ((0 : Int) ≤ i) = false := decide_eq_false h0
  have HF : Hid (zlj l = false) := yew fun j hj => hi.none (by omega) j (by rw [← HL.out]; exact hj)
  have HG := Lib.hid g
  clear hi g h0
  go_wp2_with fail
  go_ret
  exact ⟨by rw [HF.out]; first | done | rfl, HG.out⟩
theorem zzz (p : Option Addr) (n cp : Nat) (l : List Aa) (w : World) (h : SlE Eaa w (.slice p n cp) l) (hl : l.length = n) :
  Calls Tryz.prog 75 #[.slice p n cp] w fun e w' => e = .returned (.bool (mayA l)) ∧ Below w.heap.size w w' := by
 by_cases h6 : n ≤ 6
 ·
  have HC := Lib.hid (z47 p n cp l w h hl (by omega))
  have t0 : decide ((n : Int) ≤ 6) = true := decide_eq_true (by omega)
  have t1 : decide (n ≤ 6) = true := decide_eq_true h6
  rw [z66, hl, t1, Bool.true_and]
  obtain ⟨r, hr⟩ : ∃ r, r = zlj l := ⟨_, rfl⟩
  rw [← hr] at HC ⊢
  clear h hl hr h6
  go_enter Tryz.func75, Tryz.ntmps75
  go_wp2_with fail
  refine HC.out.mono ?_
  rintro e w1 ⟨rfl, g⟩
  go_wp2_with fail
  go_ret
  exact ⟨rfl, g⟩
 ·
  have t0 : decide ((n : Int) ≤ 6) = false := decide_eq_false (by omega)
  have t1 : decide (n ≤ 6) = false := decide_eq_false h6
  rw [z66, hl, t1, Bool.false_and]
  clear h hl h6
  go_enter Tryz.func75, Tryz.ntmps75
  go_wp2_with fail
  go_ret
  exact ⟨rfl, Below.refl _ _⟩
theorem ytb (v : Value) (l : List Aa) (w : World) (h : SlE Eaa w v l) :
  Calls Tryz.prog 75 #[v] w fun e w' => e = .returned (.bool (mayA l)) ∧ Below w.heap.size w w' := by
 have k := h
 obtain ⟨p, cp, rfl, _⟩ := zaj h
 exact zzz p _ cp l w k rfl
end Go.Proofs.YtmihlihlpdkdcaaGreat
