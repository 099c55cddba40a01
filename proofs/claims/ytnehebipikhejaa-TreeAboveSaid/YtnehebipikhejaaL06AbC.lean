/-
  The law TreeAbove, path by path (written by wip/gen/lawAbove.py).
-/
import Derived.Test.YtnehebipikhejaaL06AbA
namespace Go.Proofs.Ytnehebipikhejaa
open Go.RowKit

set_option maxRecDepth 100000 in
set_option maxHeartbeats 8000000 in
theorem aboveLeaf_4 (b1 o1 n cp : Nat) (l : List Nd) (a b c : Int) (w : World) (h : SlE Ene w (.slice (some ⟨b1, o1, none⟩) n cp) l) (hx : w.rangeAt b1 o1 (cellsE Ene l)) (_hl : l.length = n) (hm : MayT l)
    (r0 : decide (a < 0) = false) (r1 : decide (b < 0) = false) (r2 : decide (c < 0) = false) (r3 : decide ((n : Int) ≤ a) = false) (r4 : decide ((n : Int) ≤ b) = false) (r5 : decide ((n : Int) ≤ c) = false) (e0 : aboveZ l 0 a = true) (e1 : aboveZ l a a = true) (ex : aboveZ l a b = true) (ey : aboveZ l b c = false) (eu : aboveZ l b a = false) (ev : aboveZ l c b = true) (ez : aboveZ l a c = false) (et : aboveZ l c a = true) :
    Calls Try.prog 5 #[.agg (tr ⟨⟨some ⟨b1, o1, none⟩, n, cp⟩⟩), .int .i64 a, .int .i64 b, .int .i64 c] w fun e w' => e = .returned (.bool true) ∧ Below w.heap.size w w' := by
  have HM : Hid (∀ W, SlE Ene W (.slice (some ⟨b1, o1, none⟩) n cp) l → Calls Try.prog 24 #[.agg (tr ⟨⟨some ⟨b1, o1, none⟩, n, cp⟩⟩)] W fun e w' => e = .returned (.bool true) ∧ Below W.heap.size W w') := fun W g => by
    have := treeMay ⟨some ⟨b1, o1, none⟩, n, cp⟩ l W g
    rwa [decide_eq_true hm] at this
  have V : Hid (Tv w (w.alloc (.cells (tr ⟨⟨some ⟨b1, o1, none⟩, n, cp⟩⟩) 24)) w.heap.size b1 o1 n cp l) := ⟨heap_alloc_last w _, slE_keep below1 h, keepR below1 hx, below1⟩
  have A0 := Lib.hid (fun W g => treeAbove ⟨some ⟨b1, o1, none⟩, n, cp⟩ l 0 a W (show SlE Ene W (.slice (some ⟨b1, o1, none⟩) n cp) l from g))
  rw [e0] at A0
  have A1 := Lib.hid (fun W g => treeAbove ⟨some ⟨b1, o1, none⟩, n, cp⟩ l a a W (show SlE Ene W (.slice (some ⟨b1, o1, none⟩) n cp) l from g))
  rw [e1] at A1
  have Ax := Lib.hid (fun W g => treeAbove ⟨some ⟨b1, o1, none⟩, n, cp⟩ l a b W (show SlE Ene W (.slice (some ⟨b1, o1, none⟩) n cp) l from g))
  rw [ex] at Ax
  have Ay := Lib.hid (fun W g => treeAbove ⟨some ⟨b1, o1, none⟩, n, cp⟩ l b c W (show SlE Ene W (.slice (some ⟨b1, o1, none⟩) n cp) l from g))
  rw [ey] at Ay
  have Au := Lib.hid (fun W g => treeAbove ⟨some ⟨b1, o1, none⟩, n, cp⟩ l b a W (show SlE Ene W (.slice (some ⟨b1, o1, none⟩) n cp) l from g))
  rw [eu] at Au
  have Av := Lib.hid (fun W g => treeAbove ⟨some ⟨b1, o1, none⟩, n, cp⟩ l c b W (show SlE Ene W (.slice (some ⟨b1, o1, none⟩) n cp) l from g))
  rw [ev] at Av
  have Az := Lib.hid (fun W g => treeAbove ⟨some ⟨b1, o1, none⟩, n, cp⟩ l a c W (show SlE Ene W (.slice (some ⟨b1, o1, none⟩) n cp) l from g))
  rw [ez] at Az
  have At := Lib.hid (fun W g => treeAbove ⟨some ⟨b1, o1, none⟩, n, cp⟩ l c a W (show SlE Ene W (.slice (some ⟨b1, o1, none⟩) n cp) l from g))
  rw [et] at At
  clear h hx _hl hm e0 e1 ex ey eu ev ez et
  go_enter Try.func5, Try.ntmps5
  go_wp2_with fail
  refine (awake_any _).mono ?_
  rintro e w1 ⟨rfl, g⟩
  replace V := Lib.hid (V.out.keep g)
  have z0 := V.out.z0
  have z1 := V.out.z1
  clear g
  go_wp2_with fail
  refine (HM.out w1 V.out.s).mono ?_
  rintro e w2 ⟨rfl, g⟩
  replace V := Lib.hid (V.out.keep g)
  replace z0 := V.out.z0
  replace z1 := V.out.z1
  clear g
  go_wp2_with fail
  refine (Ax.out _ V.out.s).mono ?_
  rintro e W ⟨rfl, g⟩
  replace V := Lib.hid (V.out.keep g)
  replace z0 := V.out.z0
  replace z1 := V.out.z1
  clear g
  go_wp2_with fail
  refine (A0.out _ V.out.s).mono ?_
  rintro e W ⟨rfl, g⟩
  replace V := Lib.hid (V.out.keep g)
  replace z0 := V.out.z0
  replace z1 := V.out.z1
  clear g
  go_wp2_with fail
  refine (A1.out _ V.out.s).mono ?_
  rintro e W ⟨rfl, g⟩
  replace V := Lib.hid (V.out.keep g)
  replace z0 := V.out.z0
  replace z1 := V.out.z1
  clear g
  go_wp2_with fail
  refine (Ay.out _ V.out.s).mono ?_
  rintro e W ⟨rfl, g⟩
  replace V := Lib.hid (V.out.keep g)
  replace z0 := V.out.z0
  replace z1 := V.out.z1
  clear g
  go_wp2_with fail
  refine (Au.out _ V.out.s).mono ?_
  rintro e W ⟨rfl, g⟩
  replace V := Lib.hid (V.out.keep g)
  replace z0 := V.out.z0
  replace z1 := V.out.z1
  clear g
  go_wp2_with fail
  refine (Av.out _ V.out.s).mono ?_
  rintro e W ⟨rfl, g⟩
  replace V := Lib.hid (V.out.keep g)
  replace z0 := V.out.z0
  replace z1 := V.out.z1
  clear g
  go_wp2_with fail
  refine (Az.out _ V.out.s).mono ?_
  rintro e W ⟨rfl, g⟩
  replace V := Lib.hid (V.out.keep g)
  replace z0 := V.out.z0
  replace z1 := V.out.z1
  clear g
  go_wp2_with fail
  refine (At.out _ V.out.s).mono ?_
  rintro e W ⟨rfl, g⟩
  replace V := Lib.hid (V.out.keep g)
  replace z0 := V.out.z0
  replace z1 := V.out.z1
  clear g
  go_wp2_with fail
  go_ret
  exact ⟨rfl, V.out.g⟩

set_option maxRecDepth 100000 in
set_option maxHeartbeats 8000000 in
theorem aboveLeaf_5 (b1 o1 n cp : Nat) (l : List Nd) (a b c : Int) (w : World) (h : SlE Ene w (.slice (some ⟨b1, o1, none⟩) n cp) l) (hx : w.rangeAt b1 o1 (cellsE Ene l)) (_hl : l.length = n) (hm : MayT l)
    (r0 : decide (a < 0) = false) (r1 : decide (b < 0) = false) (r2 : decide (c < 0) = false) (r3 : decide ((n : Int) ≤ a) = false) (r4 : decide ((n : Int) ≤ b) = false) (r5 : decide ((n : Int) ≤ c) = false) (e0 : aboveZ l 0 a = true) (e1 : aboveZ l a a = true) (ex : aboveZ l a b = true) (ey : aboveZ l b c = false) (eu : aboveZ l b a = true) (ev : aboveZ l c b = false) (t6 : (a == b) = true) :
    Calls Try.prog 5 #[.agg (tr ⟨⟨some ⟨b1, o1, none⟩, n, cp⟩⟩), .int .i64 a, .int .i64 b, .int .i64 c] w fun e w' => e = .returned (.bool true) ∧ Below w.heap.size w w' := by
  have HM : Hid (∀ W, SlE Ene W (.slice (some ⟨b1, o1, none⟩) n cp) l → Calls Try.prog 24 #[.agg (tr ⟨⟨some ⟨b1, o1, none⟩, n, cp⟩⟩)] W fun e w' => e = .returned (.bool true) ∧ Below W.heap.size W w') := fun W g => by
    have := treeMay ⟨some ⟨b1, o1, none⟩, n, cp⟩ l W g
    rwa [decide_eq_true hm] at this
  have V : Hid (Tv w (w.alloc (.cells (tr ⟨⟨some ⟨b1, o1, none⟩, n, cp⟩⟩) 24)) w.heap.size b1 o1 n cp l) := ⟨heap_alloc_last w _, slE_keep below1 h, keepR below1 hx, below1⟩
  have A0 := Lib.hid (fun W g => treeAbove ⟨some ⟨b1, o1, none⟩, n, cp⟩ l 0 a W (show SlE Ene W (.slice (some ⟨b1, o1, none⟩) n cp) l from g))
  rw [e0] at A0
  have A1 := Lib.hid (fun W g => treeAbove ⟨some ⟨b1, o1, none⟩, n, cp⟩ l a a W (show SlE Ene W (.slice (some ⟨b1, o1, none⟩) n cp) l from g))
  rw [e1] at A1
  have Ax := Lib.hid (fun W g => treeAbove ⟨some ⟨b1, o1, none⟩, n, cp⟩ l a b W (show SlE Ene W (.slice (some ⟨b1, o1, none⟩) n cp) l from g))
  rw [ex] at Ax
  have Ay := Lib.hid (fun W g => treeAbove ⟨some ⟨b1, o1, none⟩, n, cp⟩ l b c W (show SlE Ene W (.slice (some ⟨b1, o1, none⟩) n cp) l from g))
  rw [ey] at Ay
  have Au := Lib.hid (fun W g => treeAbove ⟨some ⟨b1, o1, none⟩, n, cp⟩ l b a W (show SlE Ene W (.slice (some ⟨b1, o1, none⟩) n cp) l from g))
  rw [eu] at Au
  have Av := Lib.hid (fun W g => treeAbove ⟨some ⟨b1, o1, none⟩, n, cp⟩ l c b W (show SlE Ene W (.slice (some ⟨b1, o1, none⟩) n cp) l from g))
  rw [ev] at Av
  clear h hx _hl hm e0 e1 ex ey eu ev
  go_enter Try.func5, Try.ntmps5
  go_wp2_with fail
  refine (awake_any _).mono ?_
  rintro e w1 ⟨rfl, g⟩
  replace V := Lib.hid (V.out.keep g)
  have z0 := V.out.z0
  have z1 := V.out.z1
  clear g
  go_wp2_with fail
  refine (HM.out w1 V.out.s).mono ?_
  rintro e w2 ⟨rfl, g⟩
  replace V := Lib.hid (V.out.keep g)
  replace z0 := V.out.z0
  replace z1 := V.out.z1
  clear g
  go_wp2_with fail
  refine (Ax.out _ V.out.s).mono ?_
  rintro e W ⟨rfl, g⟩
  replace V := Lib.hid (V.out.keep g)
  replace z0 := V.out.z0
  replace z1 := V.out.z1
  clear g
  go_wp2_with fail
  refine (A0.out _ V.out.s).mono ?_
  rintro e W ⟨rfl, g⟩
  replace V := Lib.hid (V.out.keep g)
  replace z0 := V.out.z0
  replace z1 := V.out.z1
  clear g
  go_wp2_with fail
  refine (A1.out _ V.out.s).mono ?_
  rintro e W ⟨rfl, g⟩
  replace V := Lib.hid (V.out.keep g)
  replace z0 := V.out.z0
  replace z1 := V.out.z1
  clear g
  go_wp2_with fail
  refine (Ay.out _ V.out.s).mono ?_
  rintro e W ⟨rfl, g⟩
  replace V := Lib.hid (V.out.keep g)
  replace z0 := V.out.z0
  replace z1 := V.out.z1
  clear g
  go_wp2_with fail
  refine (Au.out _ V.out.s).mono ?_
  rintro e W ⟨rfl, g⟩
  replace V := Lib.hid (V.out.keep g)
  replace z0 := V.out.z0
  replace z1 := V.out.z1
  clear g
  go_wp2_with fail
  refine (Av.out _ V.out.s).mono ?_
  rintro e W ⟨rfl, g⟩
  replace V := Lib.hid (V.out.keep g)
  replace z0 := V.out.z0
  replace z1 := V.out.z1
  clear g
  go_wp2_with fail
  go_ret
  exact ⟨rfl, V.out.g⟩

set_option maxRecDepth 100000 in
set_option maxHeartbeats 8000000 in
theorem aboveLeaf_6 (b1 o1 n cp : Nat) (l : List Nd) (a b c : Int) (w : World) (h : SlE Ene w (.slice (some ⟨b1, o1, none⟩) n cp) l) (hx : w.rangeAt b1 o1 (cellsE Ene l)) (_hl : l.length = n) (hm : MayT l)
    (r0 : decide (a < 0) = false) (r1 : decide (b < 0) = false) (r2 : decide (c < 0) = false) (r3 : decide ((n : Int) ≤ a) = false) (r4 : decide ((n : Int) ≤ b) = false) (r5 : decide ((n : Int) ≤ c) = false) (e0 : aboveZ l 0 a = true) (e1 : aboveZ l a a = true) (ex : aboveZ l a b = true) (ey : aboveZ l b c = false) (eu : aboveZ l b a = true) (ev : aboveZ l c b = true) (ez : aboveZ l a c = true) (t6 : (a == b) = true) :
    Calls Try.prog 5 #[.agg (tr ⟨⟨some ⟨b1, o1, none⟩, n, cp⟩⟩), .int .i64 a, .int .i64 b, .int .i64 c] w fun e w' => e = .returned (.bool true) ∧ Below w.heap.size w w' := by
  have HM : Hid (∀ W, SlE Ene W (.slice (some ⟨b1, o1, none⟩) n cp) l → Calls Try.prog 24 #[.agg (tr ⟨⟨some ⟨b1, o1, none⟩, n, cp⟩⟩)] W fun e w' => e = .returned (.bool true) ∧ Below W.heap.size W w') := fun W g => by
    have := treeMay ⟨some ⟨b1, o1, none⟩, n, cp⟩ l W g
    rwa [decide_eq_true hm] at this
  have V : Hid (Tv w (w.alloc (.cells (tr ⟨⟨some ⟨b1, o1, none⟩, n, cp⟩⟩) 24)) w.heap.size b1 o1 n cp l) := ⟨heap_alloc_last w _, slE_keep below1 h, keepR below1 hx, below1⟩
  have A0 := Lib.hid (fun W g => treeAbove ⟨some ⟨b1, o1, none⟩, n, cp⟩ l 0 a W (show SlE Ene W (.slice (some ⟨b1, o1, none⟩) n cp) l from g))
  rw [e0] at A0
  have A1 := Lib.hid (fun W g => treeAbove ⟨some ⟨b1, o1, none⟩, n, cp⟩ l a a W (show SlE Ene W (.slice (some ⟨b1, o1, none⟩) n cp) l from g))
  rw [e1] at A1
  have Ax := Lib.hid (fun W g => treeAbove ⟨some ⟨b1, o1, none⟩, n, cp⟩ l a b W (show SlE Ene W (.slice (some ⟨b1, o1, none⟩) n cp) l from g))
  rw [ex] at Ax
  have Ay := Lib.hid (fun W g => treeAbove ⟨some ⟨b1, o1, none⟩, n, cp⟩ l b c W (show SlE Ene W (.slice (some ⟨b1, o1, none⟩) n cp) l from g))
  rw [ey] at Ay
  have Au := Lib.hid (fun W g => treeAbove ⟨some ⟨b1, o1, none⟩, n, cp⟩ l b a W (show SlE Ene W (.slice (some ⟨b1, o1, none⟩) n cp) l from g))
  rw [eu] at Au
  have Av := Lib.hid (fun W g => treeAbove ⟨some ⟨b1, o1, none⟩, n, cp⟩ l c b W (show SlE Ene W (.slice (some ⟨b1, o1, none⟩) n cp) l from g))
  rw [ev] at Av
  have Az := Lib.hid (fun W g => treeAbove ⟨some ⟨b1, o1, none⟩, n, cp⟩ l a c W (show SlE Ene W (.slice (some ⟨b1, o1, none⟩) n cp) l from g))
  rw [ez] at Az
  clear h hx _hl hm e0 e1 ex ey eu ev ez
  go_enter Try.func5, Try.ntmps5
  go_wp2_with fail
  refine (awake_any _).mono ?_
  rintro e w1 ⟨rfl, g⟩
  replace V := Lib.hid (V.out.keep g)
  have z0 := V.out.z0
  have z1 := V.out.z1
  clear g
  go_wp2_with fail
  refine (HM.out w1 V.out.s).mono ?_
  rintro e w2 ⟨rfl, g⟩
  replace V := Lib.hid (V.out.keep g)
  replace z0 := V.out.z0
  replace z1 := V.out.z1
  clear g
  go_wp2_with fail
  refine (Ax.out _ V.out.s).mono ?_
  rintro e W ⟨rfl, g⟩
  replace V := Lib.hid (V.out.keep g)
  replace z0 := V.out.z0
  replace z1 := V.out.z1
  clear g
  go_wp2_with fail
  refine (A0.out _ V.out.s).mono ?_
  rintro e W ⟨rfl, g⟩
  replace V := Lib.hid (V.out.keep g)
  replace z0 := V.out.z0
  replace z1 := V.out.z1
  clear g
  go_wp2_with fail
  refine (A1.out _ V.out.s).mono ?_
  rintro e W ⟨rfl, g⟩
  replace V := Lib.hid (V.out.keep g)
  replace z0 := V.out.z0
  replace z1 := V.out.z1
  clear g
  go_wp2_with fail
  refine (Ay.out _ V.out.s).mono ?_
  rintro e W ⟨rfl, g⟩
  replace V := Lib.hid (V.out.keep g)
  replace z0 := V.out.z0
  replace z1 := V.out.z1
  clear g
  go_wp2_with fail
  refine (Au.out _ V.out.s).mono ?_
  rintro e W ⟨rfl, g⟩
  replace V := Lib.hid (V.out.keep g)
  replace z0 := V.out.z0
  replace z1 := V.out.z1
  clear g
  go_wp2_with fail
  refine (Av.out _ V.out.s).mono ?_
  rintro e W ⟨rfl, g⟩
  replace V := Lib.hid (V.out.keep g)
  replace z0 := V.out.z0
  replace z1 := V.out.z1
  clear g
  go_wp2_with fail
  refine (Az.out _ V.out.s).mono ?_
  rintro e W ⟨rfl, g⟩
  replace V := Lib.hid (V.out.keep g)
  replace z0 := V.out.z0
  replace z1 := V.out.z1
  clear g
  go_wp2_with fail
  go_ret
  exact ⟨rfl, V.out.g⟩
end Go.Proofs.Ytnehebipikhejaa
