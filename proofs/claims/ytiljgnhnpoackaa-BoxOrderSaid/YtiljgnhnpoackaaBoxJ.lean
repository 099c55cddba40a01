/-
  The document's Post, walked. (written by wip/gen/boxPost.py)
-/
import Derived.Test.YtiljgnhnpoackaaBoxI
namespace Go.Proofs.Ytiljgnhnpoackaa
open Go.RowKit

set_option maxRecDepth 100000 in
set_option maxHeartbeats 1000000 in
theorem refPost_A (cap : Int) (p : Option Addr) (n : Nat) (closed : Bool) (cp : Nat) (lag : Bool) (x : Nt) (l : List Nt) (w : World) (h : SlE Ent w (.slice p n cp) l) (hl : l.length = n) (hn : l.length ≤ 100) (hr : mayX Nt.ver ⟨cap, l, lag, closed⟩ = false)  :
    Calls Try.prog 12 #[.agg (bx ⟨cap, ⟨p, n, cp⟩, lag, closed⟩), .agg (nt x)] w (BoxIs ⟨cap, l, lag, closed⟩ w) := by
  have HM := Lib.hid (fun W (g : Below w.heap.size w W) => refMay_any ⟨cap, ⟨p, n, cp⟩, lag, closed⟩ l W (slE_keep g h) (by omega))
  rw [show mayX Nt.ver (bp ⟨cap, ⟨p, n, cp⟩, lag, closed⟩ l) = false from hr] at HM
  obtain ⟨W0, hW0⟩ : ∃ W0, W0 = ((w.alloc (.cells (bx ⟨cap, ⟨p, n, cp⟩, lag, closed⟩) 24)).alloc (.cells (nt x) 31)).alloc (.cells (bx zbx) 24) := ⟨_, rfl⟩
  obtain ⟨hB, hM0, hM1, hM2, hZ⟩ := heap3 w _ _ _ _ _ _ W0 hW0
  have HB := Lib.hid hB
  have M0 := Lib.hid hM0
  have M1 := Lib.hid hM1
  have M2 := Lib.hid hM2
  have HW := Lib.hid hW0
  have HS := Lib.hid h
  have HL := Lib.hid hl
  have HN := Lib.hid hn
  clear h hl hn hr hW0 hB hM0 hM1 hM2 hZ
  go_enter Try.func12, Try.ntmps12
  go_wp2_with fail
  rw [← HW.out]
  refine (HM.out W0 HB.out).mono ?_
  rintro e w1 ⟨rfl, g1⟩
  have N0 := Lib.hid (blk_keep g1 M0.out)
  have N1 := Lib.hid (blk_keep g1 M1.out)
  have N2 := Lib.hid (blk_keep g1 M2.out)
  have G1 := Lib.hid (belowT HB.out g1)
  obtain ⟨x0, x1, _, x3, x4, xl⟩ := bx_cells N0.out
  dsimp only at x0 x1 x3
  rw [sv_mk] at x1
  have xv := nt_rd0_ver N1.out
  have xn := ldA_block N1.out (nt_size _)
  have xz : w.heap.size + 1 < w1.heap.size := (Array.getElem?_eq_some_iff.1 N1.out).1
  have q2 := wrA_block N2.out (bx_size _)
  clear g1
  go_wp2_with fail
  go_quiet (fail)
  have N0' := Lib.hid (show (w1.drewN nq).heap[w.heap.size]? = _ from N0.out)
  have N1' := Lib.hid (show (w1.drewN nq).heap[w.heap.size + 1]? = _ from N1.out)
  have N2' := Lib.hid (show (w1.drewN nq).heap[w.heap.size + 2]? = _ from N2.out)
  have G1' := Lib.hid (belowD G1.out nq)
  clear N0 N1 N2 G1 x0 x1 x3 x4 xl xv xn xz q2
  generalize w1.drewN nq = w2 at *
  obtain ⟨x0, x1, _, x3, x4, xl⟩ := bx_cells N0'.out
  dsimp only at x0 x1 x3
  rw [sv_mk] at x1
  have xn := ldA_block N1'.out (nt_size _)
  have xz : w.heap.size + 1 < w2.heap.size := (Array.getElem?_eq_some_iff.1 N1'.out).1
  have q2 := wrA_block N2'.out (bx_size _)
  go_wp2_with fail
  exact bodyPost_ret (results_agg1 Try.isAgg24 Try.sizeOf24 _ 4 rfl _ _ _ _ rfl (put_whole N2'.out (bx_size _) (bx_size _))) rfl ⟨⟨cap, ⟨p, n, cp⟩, lag, closed⟩, l, rfl, rfl, slE_keep (below_stA G1'.out (by omega)) HS.out, below_stA G1'.out (by omega)⟩

set_option maxRecDepth 100000 in
set_option maxHeartbeats 1000000 in
theorem refPost_B (cap : Int) (p : Option Addr) (n : Nat) (cp : Nat) (lag : Bool) (x : Nt) (l : List Nt) (w : World) (h : SlE Ent w (.slice p n cp) l) (hl : l.length = n) (hn : l.length ≤ 100) (hr : mayX Nt.ver ⟨cap, l, lag, true⟩ = true)  :
    Calls Try.prog 12 #[.agg (bx ⟨cap, ⟨p, n, cp⟩, lag, true⟩), .agg (nt x)] w (BoxIs ⟨cap, l, lag, true⟩ w) := by
  have HM := Lib.hid (fun W (g : Below w.heap.size w W) => refMay_any ⟨cap, ⟨p, n, cp⟩, lag, true⟩ l W (slE_keep g h) (by omega))
  rw [show mayX Nt.ver (bp ⟨cap, ⟨p, n, cp⟩, lag, true⟩ l) = true from hr] at HM
  obtain ⟨W0, hW0⟩ : ∃ W0, W0 = ((w.alloc (.cells (bx ⟨cap, ⟨p, n, cp⟩, lag, true⟩) 24)).alloc (.cells (nt x) 31)).alloc (.cells (bx zbx) 24) := ⟨_, rfl⟩
  obtain ⟨hB, hM0, hM1, hM2, hZ⟩ := heap3 w _ _ _ _ _ _ W0 hW0
  have HB := Lib.hid hB
  have M0 := Lib.hid hM0
  have M1 := Lib.hid hM1
  have M2 := Lib.hid hM2
  have HW := Lib.hid hW0
  have HS := Lib.hid h
  have HL := Lib.hid hl
  have HN := Lib.hid hn
  clear h hl hn hr hW0 hB hM0 hM1 hM2 hZ
  go_enter Try.func12, Try.ntmps12
  go_wp2_with fail
  rw [← HW.out]
  refine (HM.out W0 HB.out).mono ?_
  rintro e w1 ⟨rfl, g1⟩
  have N0 := Lib.hid (blk_keep g1 M0.out)
  have N1 := Lib.hid (blk_keep g1 M1.out)
  have N2 := Lib.hid (blk_keep g1 M2.out)
  have G1 := Lib.hid (belowT HB.out g1)
  obtain ⟨x0, x1, _, x3, x4, xl⟩ := bx_cells N0.out
  dsimp only at x0 x1 x3
  rw [sv_mk] at x1
  have xv := nt_rd0_ver N1.out
  have xn := ldA_block N1.out (nt_size _)
  have xz : w.heap.size + 1 < w1.heap.size := (Array.getElem?_eq_some_iff.1 N1.out).1
  have q2 := wrA_block N2.out (bx_size _)
  clear g1
  go_wp2_with fail
  go_quiet (fail)
  have N0' := Lib.hid (show (w1.drewN nq).heap[w.heap.size]? = _ from N0.out)
  have N1' := Lib.hid (show (w1.drewN nq).heap[w.heap.size + 1]? = _ from N1.out)
  have N2' := Lib.hid (show (w1.drewN nq).heap[w.heap.size + 2]? = _ from N2.out)
  have G1' := Lib.hid (belowD G1.out nq)
  clear N0 N1 N2 G1 x0 x1 x3 x4 xl xv xn xz q2
  generalize w1.drewN nq = w2 at *
  obtain ⟨x0, x1, _, x3, x4, xl⟩ := bx_cells N0'.out
  dsimp only at x0 x1 x3
  rw [sv_mk] at x1
  have xn := ldA_block N1'.out (nt_size _)
  have xz : w.heap.size + 1 < w2.heap.size := (Array.getElem?_eq_some_iff.1 N1'.out).1
  have q2 := wrA_block N2'.out (bx_size _)
  go_wp2_with fail
  exact bodyPost_ret (results_agg1 Try.isAgg24 Try.sizeOf24 _ 4 rfl _ _ _ _ rfl (put_whole N2'.out (bx_size _) (bx_size _))) rfl ⟨⟨cap, ⟨p, n, cp⟩, lag, true⟩, l, rfl, rfl, slE_keep (below_stA G1'.out (by omega)) HS.out, below_stA G1'.out (by omega)⟩

set_option maxRecDepth 100000 in
set_option maxHeartbeats 1000000 in
theorem refPost_C (cap : Int) (b1 o1 k : Nat) (cp : Nat) (lag : Bool) (x : Nt) (l : List Nt) (w : World) (h : SlE Ent w (.slice (some ⟨b1, o1, none⟩) (k + 1) cp) l) (hl : l.length = (k + 1)) (hn : l.length ≤ 100) (hr : mayX Nt.ver ⟨cap, l, lag, false⟩ = true) (v : Int) (hb1 : b1 < w.heap.size) (hv : w.cell? ⟨b1, o1 + k * 66, none⟩ = some (.int .i64 v)) (hle : x.ver ≤ v) :
    Calls Try.prog 12 #[.agg (bx ⟨cap, ⟨(some ⟨b1, o1, none⟩), (k + 1), cp⟩, lag, false⟩), .agg (nt x)] w (BoxIs ⟨cap, l, lag, false⟩ w) := by
  have HM := Lib.hid (fun W (g : Below w.heap.size w W) => refMay_any ⟨cap, ⟨(some ⟨b1, o1, none⟩), (k + 1), cp⟩, lag, false⟩ l W (slE_keep g h) (by omega))
  rw [show mayX Nt.ver (bp ⟨cap, ⟨(some ⟨b1, o1, none⟩), (k + 1), cp⟩, lag, false⟩ l) = true from hr] at HM
  obtain ⟨W0, hW0⟩ : ∃ W0, W0 = ((w.alloc (.cells (bx ⟨cap, ⟨(some ⟨b1, o1, none⟩), (k + 1), cp⟩, lag, false⟩) 24)).alloc (.cells (nt x) 31)).alloc (.cells (bx zbx) 24) := ⟨_, rfl⟩
  obtain ⟨hB, hM0, hM1, hM2, hZ⟩ := heap3 w _ _ _ _ _ _ W0 hW0
  have HB := Lib.hid hB
  have M0 := Lib.hid hM0
  have M1 := Lib.hid hM1
  have M2 := Lib.hid hM2
  have HW := Lib.hid hW0
  have HS := Lib.hid h
  have HL := Lib.hid hl
  have HN := Lib.hid hn
  clear h hl hn hr hW0 hB hM0 hM1 hM2 hZ
  have t1 : decide (x.ver ≤ v) = true := decide_eq_true hle
  clear hle
  have HV := Lib.hid hv
  have HB1 := Lib.hid hb1
  clear hv hb1
  have i0 : (0 : Int) ≤ (k : Int) := by omega
  have i1 : (k : Int) < (k : Int) + 1 := by omega
  have t0 : decide ((0 : Int) < (k : Int) + 1) = true := by rw [decide_eq_true_iff]; omega
  have u1 : (k : Int) + 1 < 10000 := by have := HL.out; have := HN.out; omega
  go_enter Try.func12, Try.ntmps12
  go_wp2_with fail
  rw [← HW.out]
  refine (HM.out W0 HB.out).mono ?_
  rintro e w1 ⟨rfl, g1⟩
  have N0 := Lib.hid (blk_keep g1 M0.out)
  have N1 := Lib.hid (blk_keep g1 M1.out)
  have N2 := Lib.hid (blk_keep g1 M2.out)
  have G1 := Lib.hid (belowT HB.out g1)
  obtain ⟨x0, x1, _, x3, x4, xl⟩ := bx_cells N0.out
  dsimp only at x0 x1 x3
  rw [sv_mk] at x1
  have xv := nt_rd0_ver N1.out
  have xn := ldA_block N1.out (nt_size _)
  have xz : w.heap.size + 1 < w1.heap.size := (Array.getElem?_eq_some_iff.1 N1.out).1
  have q2 := wrA_block N2.out (bx_size _)
  clear g1
  have yv : w1.cell? ⟨b1, o1 + k * 66, none⟩ = some (.int .i64 v) := (G1.out.cell (p := ⟨b1, o1 + k * 66, none⟩) HB1.out).trans HV.out
  go_wp2_with fail
  go_quiet (fail)
  have N0' := Lib.hid (show (w1.drewN nq).heap[w.heap.size]? = _ from N0.out)
  have N1' := Lib.hid (show (w1.drewN nq).heap[w.heap.size + 1]? = _ from N1.out)
  have N2' := Lib.hid (show (w1.drewN nq).heap[w.heap.size + 2]? = _ from N2.out)
  have G1' := Lib.hid (belowD G1.out nq)
  clear N0 N1 N2 G1 x0 x1 x3 x4 xl xv xn xz q2 yv
  generalize w1.drewN nq = w2 at *
  obtain ⟨x0, x1, _, x3, x4, xl⟩ := bx_cells N0'.out
  dsimp only at x0 x1 x3
  rw [sv_mk] at x1
  have xn := ldA_block N1'.out (nt_size _)
  have xz : w.heap.size + 1 < w2.heap.size := (Array.getElem?_eq_some_iff.1 N1'.out).1
  have q2 := wrA_block N2'.out (bx_size _)
  go_wp2_with fail
  exact bodyPost_ret (results_agg1 Try.isAgg24 Try.sizeOf24 _ 4 rfl _ _ _ _ rfl (put_whole N2'.out (bx_size _) (bx_size _))) rfl ⟨⟨cap, ⟨(some ⟨b1, o1, none⟩), (k + 1), cp⟩, lag, false⟩, l, rfl, rfl, slE_keep (below_stA G1'.out (by omega)) HS.out, below_stA G1'.out (by omega)⟩

set_option maxRecDepth 100000 in
set_option maxHeartbeats 1000000 in
theorem refPost_E1 (cap : Int) (b1 o1 k : Nat) (cp : Nat) (lag : Bool) (x : Nt) (l : List Nt) (w : World) (h : SlE Ent w (.slice (some ⟨b1, o1, none⟩) (k + 1) cp) l) (hl : l.length = (k + 1)) (hn : l.length ≤ 100) (hr : mayX Nt.ver ⟨cap, l, lag, false⟩ = true) (v : Int) (hb1 : b1 < w.heap.size) (hv : w.cell? ⟨b1, o1 + k * 66, none⟩ = some (.int .i64 v)) (hle : ¬ x.ver ≤ v) (hc : (k : Int) + 1 = cap) :
    Calls Try.prog 12 #[.agg (bx ⟨cap, ⟨(some ⟨b1, o1, none⟩), (k + 1), cp⟩, lag, false⟩), .agg (nt x)] w (BoxIs ⟨cap, l, true, false⟩ w) := by
  have HM := Lib.hid (fun W (g : Below w.heap.size w W) => refMay_any ⟨cap, ⟨(some ⟨b1, o1, none⟩), (k + 1), cp⟩, lag, false⟩ l W (slE_keep g h) (by omega))
  rw [show mayX Nt.ver (bp ⟨cap, ⟨(some ⟨b1, o1, none⟩), (k + 1), cp⟩, lag, false⟩ l) = true from hr] at HM
  obtain ⟨W0, hW0⟩ : ∃ W0, W0 = ((w.alloc (.cells (bx ⟨cap, ⟨(some ⟨b1, o1, none⟩), (k + 1), cp⟩, lag, false⟩) 24)).alloc (.cells (nt x) 31)).alloc (.cells (bx zbx) 24) := ⟨_, rfl⟩
  obtain ⟨hB, hM0, hM1, hM2, hZ⟩ := heap3 w _ _ _ _ _ _ W0 hW0
  have HB := Lib.hid hB
  have M0 := Lib.hid hM0
  have M1 := Lib.hid hM1
  have M2 := Lib.hid hM2
  have HW := Lib.hid hW0
  have HS := Lib.hid h
  have HL := Lib.hid hl
  have HN := Lib.hid hn
  clear h hl hn hr hW0 hB hM0 hM1 hM2 hZ
  have t1 : decide (x.ver ≤ v) = false := decide_eq_false hle
  clear hle
  have HV := Lib.hid hv
  have HB1 := Lib.hid hb1
  clear hv hb1
  have i0 : (0 : Int) ≤ (k : Int) := by omega
  have i1 : (k : Int) < (k : Int) + 1 := by omega
  have t0 : decide ((0 : Int) < (k : Int) + 1) = true := by rw [decide_eq_true_iff]; omega
  have u1 : (k : Int) + 1 < 10000 := by have := HL.out; have := HN.out; omega
  have t2 : ((k : Int) + 1 == cap) = true := by simpa using hc
  clear hc
  go_enter Try.func12, Try.ntmps12
  go_wp2_with fail
  rw [← HW.out]
  refine (HM.out W0 HB.out).mono ?_
  rintro e w1 ⟨rfl, g1⟩
  have N0 := Lib.hid (blk_keep g1 M0.out)
  have N1 := Lib.hid (blk_keep g1 M1.out)
  have N2 := Lib.hid (blk_keep g1 M2.out)
  have G1 := Lib.hid (belowT HB.out g1)
  obtain ⟨x0, x1, _, x3, x4, xl⟩ := bx_cells N0.out
  dsimp only at x0 x1 x3
  rw [sv_mk] at x1
  have xv := nt_rd0_ver N1.out
  have xn := ldA_block N1.out (nt_size _)
  have xz : w.heap.size + 1 < w1.heap.size := (Array.getElem?_eq_some_iff.1 N1.out).1
  have q2 := wrA_block N2.out (bx_size _)
  clear g1
  have yv : w1.cell? ⟨b1, o1 + k * 66, none⟩ = some (.int .i64 v) := (G1.out.cell (p := ⟨b1, o1 + k * 66, none⟩) HB1.out).trans HV.out
  go_wp2_with fail
  go_quiet (fail)
  have N0' := Lib.hid (show (w1.drewN nq).heap[w.heap.size]? = _ from N0.out)
  have N1' := Lib.hid (show (w1.drewN nq).heap[w.heap.size + 1]? = _ from N1.out)
  have N2' := Lib.hid (show (w1.drewN nq).heap[w.heap.size + 2]? = _ from N2.out)
  have G1' := Lib.hid (belowD G1.out nq)
  clear N0 N1 N2 G1 x0 x1 x3 x4 xl xv xn xz q2 yv
  generalize w1.drewN nq = w2 at *
  obtain ⟨x0, x1, _, x3, x4, xl⟩ := bx_cells N0'.out
  dsimp only at x0 x1 x3
  rw [sv_mk] at x1
  have xn := ldA_block N1'.out (nt_size _)
  have xz : w.heap.size + 1 < w2.heap.size := (Array.getElem?_eq_some_iff.1 N1'.out).1
  have q2 := wrA_block N2'.out (bx_size _)
  have P0 : Hid ((w2.setCell ⟨w.heap.size, 2, none⟩ (.bool true)).heap[w.heap.size]? = some (.cells (bx ⟨cap, ⟨(some ⟨b1, o1, none⟩), (k + 1), cp⟩, true, false⟩) 24 (0, 0))) := by
    have := heap_setCell_same N0'.out 2 (.bool true)
    rwa [bx_set_lag] at this
  have P2 : Hid ((w2.setCell ⟨w.heap.size, 2, none⟩ (.bool true)).heap[w.heap.size + 2]? = some (.cells (bx zbx) 24 (0, 0))) := by
    show _ = _
    rw [Below.heap_setCell _ _ _ _ (show w.heap.size + 2 ≠ w.heap.size by omega)]; exact N2'.out
  have x2 := (bx_cells N0'.out).2.2.1
  have xf : w2.frozen? ⟨w.heap.size, 2, none⟩ = false := frozen_of_row _ _ _ _ _ N0'.out
  have y1 := ldA_block P0.out (bx_size _)
  have y2 := wrA_block P2.out (bx_size _)
  have GG := Lib.hid (below_stA (o := 0) (x := .agg (bx ⟨cap, ⟨(some ⟨b1, o1, none⟩), (k + 1), cp⟩, true, false⟩)) (below_set (o := 2) (v := .bool true) G1'.out (Nat.le_refl _)) (show w.heap.size ≤ w.heap.size + 2 by omega))
  go_wp2_with fail
  exact bodyPost_ret (results_agg1 Try.isAgg24 Try.sizeOf24 _ 4 rfl _ _ _ _ rfl (put_whole P2.out (bx_size _) (bx_size _))) rfl ⟨⟨cap, ⟨(some ⟨b1, o1, none⟩), (k + 1), cp⟩, true, false⟩, l, rfl, rfl, slE_keep (GG.out) HS.out, GG.out⟩

set_option maxRecDepth 100000 in
set_option maxHeartbeats 1000000 in
theorem refPost_E2 (cap : Int) (b1 o1 k : Nat) (cp : Nat) (lag : Bool) (x : Nt) (l : List Nt) (w : World) (h : SlE Ent w (.slice (some ⟨b1, o1, none⟩) (k + 1) cp) l) (hl : l.length = (k + 1)) (hn : l.length ≤ 100) (hr : mayX Nt.ver ⟨cap, l, lag, false⟩ = true) (v : Int) (hb1 : b1 < w.heap.size) (hv : w.cell? ⟨b1, o1 + k * 66, none⟩ = some (.int .i64 v)) (hle : ¬ x.ver ≤ v) (hc : ¬ (k : Int) + 1 = cap) :
    Calls Try.prog 12 #[.agg (bx ⟨cap, ⟨(some ⟨b1, o1, none⟩), (k + 1), cp⟩, lag, false⟩), .agg (nt x)] w (BoxIs ⟨cap, l ++ [x], lag, false⟩ w) := by
  have HM := Lib.hid (fun W (g : Below w.heap.size w W) => refMay_any ⟨cap, ⟨(some ⟨b1, o1, none⟩), (k + 1), cp⟩, lag, false⟩ l W (slE_keep g h) (by omega))
  rw [show mayX Nt.ver (bp ⟨cap, ⟨(some ⟨b1, o1, none⟩), (k + 1), cp⟩, lag, false⟩ l) = true from hr] at HM
  obtain ⟨W0, hW0⟩ : ∃ W0, W0 = ((w.alloc (.cells (bx ⟨cap, ⟨(some ⟨b1, o1, none⟩), (k + 1), cp⟩, lag, false⟩) 24)).alloc (.cells (nt x) 31)).alloc (.cells (bx zbx) 24) := ⟨_, rfl⟩
  obtain ⟨hB, hM0, hM1, hM2, hZ⟩ := heap3 w _ _ _ _ _ _ W0 hW0
  have HB := Lib.hid hB
  have M0 := Lib.hid hM0
  have M1 := Lib.hid hM1
  have M2 := Lib.hid hM2
  have HW := Lib.hid hW0
  have HS := Lib.hid h
  have HL := Lib.hid hl
  have HN := Lib.hid hn
  clear h hl hn hr hW0 hB hM0 hM1 hM2 hZ
  have t1 : decide (x.ver ≤ v) = false := decide_eq_false hle
  clear hle
  have HV := Lib.hid hv
  have HB1 := Lib.hid hb1
  clear hv hb1
  have i0 : (0 : Int) ≤ (k : Int) := by omega
  have i1 : (k : Int) < (k : Int) + 1 := by omega
  have t0 : decide ((0 : Int) < (k : Int) + 1) = true := by rw [decide_eq_true_iff]; omega
  have u1 : (k : Int) + 1 < 10000 := by have := HL.out; have := HN.out; omega
  have t2 : ((k : Int) + 1 == cap) = false := by simpa using hc
  clear hc
  go_enter Try.func12, Try.ntmps12
  go_wp2_with fail
  rw [← HW.out]
  refine (HM.out W0 HB.out).mono ?_
  rintro e w1 ⟨rfl, g1⟩
  have N0 := Lib.hid (blk_keep g1 M0.out)
  have N1 := Lib.hid (blk_keep g1 M1.out)
  have N2 := Lib.hid (blk_keep g1 M2.out)
  have G1 := Lib.hid (belowT HB.out g1)
  obtain ⟨x0, x1, _, x3, x4, xl⟩ := bx_cells N0.out
  dsimp only at x0 x1 x3
  rw [sv_mk] at x1
  have xv := nt_rd0_ver N1.out
  have xn := ldA_block N1.out (nt_size _)
  have xz : w.heap.size + 1 < w1.heap.size := (Array.getElem?_eq_some_iff.1 N1.out).1
  have q2 := wrA_block N2.out (bx_size _)
  clear g1
  have yv : w1.cell? ⟨b1, o1 + k * 66, none⟩ = some (.int .i64 v) := (G1.out.cell (p := ⟨b1, o1 + k * 66, none⟩) HB1.out).trans HV.out
  go_wp2_with fail
  go_quiet (fail)
  have N0' := Lib.hid (show (w1.drewN nq).heap[w.heap.size]? = _ from N0.out)
  have N1' := Lib.hid (show (w1.drewN nq).heap[w.heap.size + 1]? = _ from N1.out)
  have N2' := Lib.hid (show (w1.drewN nq).heap[w.heap.size + 2]? = _ from N2.out)
  have G1' := Lib.hid (belowD G1.out nq)
  clear N0 N1 N2 G1 x0 x1 x3 x4 xl xv xn xz q2 yv
  generalize w1.drewN nq = w2 at *
  obtain ⟨x0, x1, _, x3, x4, xl⟩ := bx_cells N0'.out
  dsimp only at x0 x1 x3
  rw [sv_mk] at x1
  have xn := ldA_block N1'.out (nt_size _)
  have xz : w.heap.size + 1 < w2.heap.size := (Array.getElem?_eq_some_iff.1 N1'.out).1
  have q2 := wrA_block N2'.out (bx_size _)
  have S1 := Lib.hid (slE_keep G1'.out HS.out)
  go_wp2_with fail
  go_region_law (first
    | (refine step_append_E Knt _ rfl (.const (.slice none 0 0)) (.tmp 44) rfl _ _ [] rfl (ownE_nil _ _ _) _ l rfl (by first | exact slE_keep (belowD (Below.refl _ _) _) S1.out | exact slE_keep (belowD below1 _) S1.out) (by have := HN.out; simp; omega) (Nat.le_refl _) ?_
       intro v3 w3 ho3 hg3
       obtain ⟨base, hle, hb3, O3, E3, D3⟩ := app1E (w2 := w2) (by first | exact belowD (Below.refl _ _) _ | exact belowD below1 _) ho3 hg3
       have HLE := Lib.hid hle
       have HB3 := Lib.hid hb3
       have HO3 := Lib.hid O3
       have HE3 := Lib.hid E3
       (try (have NS : Hid (SlE Ent w3 (.slice (some ⟨w2.heap.size, 0, none⟩) 1 1) [x]) := slE_keep D3 (slE_lit w2.drew [x] 1 31 (nt x) w2.heap.size rfl rfl (by simp [cellsE, Ent, nt_list]))))
       have a0 := ldA_block (blk_keep E3 N1'.out) (nt_size _)
       have al : w.heap.size + 1 < w3.heap.size := (Array.getElem?_eq_some_iff.1 (blk_keep E3 N1'.out)).1
       obtain ⟨p3, c3, rfl⟩ := ownE_len O3 HL.out
       clear hle hb3 O3 E3 ho3 hg3 D3)
    | (refine step_append_E Knt _ rfl (.tmp 45) (.tmp 47) rfl base _ l rfl (by first | exact HO3.out | exact ownE_alloc HO3.out _) _ [x] rfl (by first | exact NS.out | exact slE_lit _ [x] 1 _ _ _ rfl rfl (by simp [cellsE, Ent, nt_list])) (by have := HN.out; simp; omega) (by first | exact HB3.out | exact Nat.le_trans HB3.out below1.size) ?_
       intro v4 w4 ho4 hg4
       have E4 : Hid (Below w2.heap.size w2 w4) := app2E (by first | exact HE3.out | exact belowT HE3.out below1) HLE.out (by first | exact HB3.out | exact Nat.le_trans HB3.out below1.size) (by first | exact HO3.out | exact ownE_alloc HO3.out _) hg4
       have O4 := Lib.hid (ownE_slE ho4)
       have F4 : Hid (∀ b, v4.ownBlock = some b → w2.heap.size ≤ b) := fun b hb => Nat.le_trans HLE.out (ownE_lt ho4 hb).1
       obtain ⟨p4, c4, rfl⟩ := slE_len O4.out (n := (k + 1) + 1) (by rw [List.length_append, HL.out]; rfl)
       have P0 := Lib.hid (blk_keep E4.out N0'.out)
       have P2 := Lib.hid (blk_keep E4.out N2'.out)
       have z1 : w4.cell? ⟨w.heap.size, 1, none⟩ = some (.slice (some ⟨b1, o1, none⟩) ((k + 1)) cp) := (bx_cells P0.out).2.1
       have zf : w4.frozen? ⟨w.heap.size, 1, none⟩ = false := frozen_of_row _ _ _ _ _ P0.out
       obtain ⟨W5, hW5⟩ : ∃ W5, W5 = w4.setCell ⟨w.heap.size, 1, none⟩ (.slice p4 ((k + 1) + 1) c4) := ⟨_, rfl⟩
       have R0 : Hid (W5.heap[w.heap.size]? = some (.cells (bx ⟨cap, ⟨p4, (k + 1) + 1, c4⟩, lag, false⟩) 24 (0, 0))) := by
         have := heap_setCell_same P0.out 1 (.slice p4 ((k + 1) + 1) c4)
         rw [hW5]
         rwa [bx_sets_l] at this
       have R2 : Hid (W5.heap[w.heap.size + 2]? = some (.cells (bx zbx) 24 (0, 0))) := by
         rw [hW5, Below.heap_setCell _ _ _ _ (show w.heap.size + 2 ≠ w.heap.size by omega)]; exact P2.out
       have B5 : Hid (Below w.heap.size w W5) := by rw [hW5]; exact below_set (belowT G1'.out E4.out) (Nat.le_refl _)
       have L2 : w.heap.size + 2 < w2.heap.size := (Array.getElem?_eq_some_iff.1 N2'.out).1
       have S5 : Hid (SlE Ent W5 (.slice p4 ((k + 1) + 1) c4) (l ++ [x])) := by
         rw [hW5]
         exact slE_block O4.out (Nat.le_of_eq (by simp [World.setCell])) (fun j _ hj => by
           have := F4.out j hj
           rw [Below.heap_setCell _ _ _ _ (show j ≠ w.heap.size by omega)])
       have f0 := ldA_block R0.out (bx_size _)
       have f1 := wrA_block R2.out (bx_size _)
       have L3 := Lib.hid L2
       have HW5 := Lib.hid hW5
       rw [hW5] at f0 f1
       clear hW5 ho4 hg4 L2))
  all_goals
    go_wp2_with fail
    rw [← HW5.out]
    exact bodyPost_ret (results_agg1 Try.isAgg24 Try.sizeOf24 _ 4 rfl _ _ _ _ rfl (put_whole R2.out (bx_size _) (bx_size _))) rfl ⟨⟨cap, ⟨p4, (k + 1) + 1, c4⟩, lag, false⟩, l ++ [x], rfl, rfl, slE_stA S5.out (fun e => by have := F4.out _ e; have := L3.out; omega), below_stA B5.out (by omega)⟩

set_option maxRecDepth 100000 in
set_option maxHeartbeats 1000000 in
theorem refPost_D1 (cap : Int) (p : Option Addr) (cp : Nat) (lag : Bool) (x : Nt) (l : List Nt) (w : World) (h : SlE Ent w (.slice p 0 cp) l) (hl : l.length = 0) (hn : l.length ≤ 100) (hr : mayX Nt.ver ⟨cap, l, lag, false⟩ = true) (hc : (0 : Int) = cap) :
    Calls Try.prog 12 #[.agg (bx ⟨cap, ⟨p, 0, cp⟩, lag, false⟩), .agg (nt x)] w (BoxIs ⟨cap, l, true, false⟩ w) := by
  have HM := Lib.hid (fun W (g : Below w.heap.size w W) => refMay_any ⟨cap, ⟨p, 0, cp⟩, lag, false⟩ l W (slE_keep g h) (by omega))
  rw [show mayX Nt.ver (bp ⟨cap, ⟨p, 0, cp⟩, lag, false⟩ l) = true from hr] at HM
  obtain ⟨W0, hW0⟩ : ∃ W0, W0 = ((w.alloc (.cells (bx ⟨cap, ⟨p, 0, cp⟩, lag, false⟩) 24)).alloc (.cells (nt x) 31)).alloc (.cells (bx zbx) 24) := ⟨_, rfl⟩
  obtain ⟨hB, hM0, hM1, hM2, hZ⟩ := heap3 w _ _ _ _ _ _ W0 hW0
  have HB := Lib.hid hB
  have M0 := Lib.hid hM0
  have M1 := Lib.hid hM1
  have M2 := Lib.hid hM2
  have HW := Lib.hid hW0
  have HS := Lib.hid h
  have HL := Lib.hid hl
  have HN := Lib.hid hn
  clear h hl hn hr hW0 hB hM0 hM1 hM2 hZ
  have t2 : ((0 : Int) == cap) = true := by simpa using hc
  clear hc
  go_enter Try.func12, Try.ntmps12
  go_wp2_with fail
  rw [← HW.out]
  refine (HM.out W0 HB.out).mono ?_
  rintro e w1 ⟨rfl, g1⟩
  have N0 := Lib.hid (blk_keep g1 M0.out)
  have N1 := Lib.hid (blk_keep g1 M1.out)
  have N2 := Lib.hid (blk_keep g1 M2.out)
  have G1 := Lib.hid (belowT HB.out g1)
  obtain ⟨x0, x1, _, x3, x4, xl⟩ := bx_cells N0.out
  dsimp only at x0 x1 x3
  rw [sv_mk] at x1
  have xv := nt_rd0_ver N1.out
  have xn := ldA_block N1.out (nt_size _)
  have xz : w.heap.size + 1 < w1.heap.size := (Array.getElem?_eq_some_iff.1 N1.out).1
  have q2 := wrA_block N2.out (bx_size _)
  clear g1
  go_wp2_with fail
  go_quiet (fail)
  have N0' := Lib.hid (show (w1.drewN nq).heap[w.heap.size]? = _ from N0.out)
  have N1' := Lib.hid (show (w1.drewN nq).heap[w.heap.size + 1]? = _ from N1.out)
  have N2' := Lib.hid (show (w1.drewN nq).heap[w.heap.size + 2]? = _ from N2.out)
  have G1' := Lib.hid (belowD G1.out nq)
  clear N0 N1 N2 G1 x0 x1 x3 x4 xl xv xn xz q2
  generalize w1.drewN nq = w2 at *
  obtain ⟨x0, x1, _, x3, x4, xl⟩ := bx_cells N0'.out
  dsimp only at x0 x1 x3
  rw [sv_mk] at x1
  have xn := ldA_block N1'.out (nt_size _)
  have xz : w.heap.size + 1 < w2.heap.size := (Array.getElem?_eq_some_iff.1 N1'.out).1
  have q2 := wrA_block N2'.out (bx_size _)
  have P0 : Hid ((w2.setCell ⟨w.heap.size, 2, none⟩ (.bool true)).heap[w.heap.size]? = some (.cells (bx ⟨cap, ⟨p, 0, cp⟩, true, false⟩) 24 (0, 0))) := by
    have := heap_setCell_same N0'.out 2 (.bool true)
    rwa [bx_set_lag] at this
  have P2 : Hid ((w2.setCell ⟨w.heap.size, 2, none⟩ (.bool true)).heap[w.heap.size + 2]? = some (.cells (bx zbx) 24 (0, 0))) := by
    show _ = _
    rw [Below.heap_setCell _ _ _ _ (show w.heap.size + 2 ≠ w.heap.size by omega)]; exact N2'.out
  have x2 := (bx_cells N0'.out).2.2.1
  have xf : w2.frozen? ⟨w.heap.size, 2, none⟩ = false := frozen_of_row _ _ _ _ _ N0'.out
  have y1 := ldA_block P0.out (bx_size _)
  have y2 := wrA_block P2.out (bx_size _)
  have GG := Lib.hid (below_stA (o := 0) (x := .agg (bx ⟨cap, ⟨p, 0, cp⟩, true, false⟩)) (below_set (o := 2) (v := .bool true) G1'.out (Nat.le_refl _)) (show w.heap.size ≤ w.heap.size + 2 by omega))
  go_wp2_with fail
  exact bodyPost_ret (results_agg1 Try.isAgg24 Try.sizeOf24 _ 4 rfl _ _ _ _ rfl (put_whole P2.out (bx_size _) (bx_size _))) rfl ⟨⟨cap, ⟨p, 0, cp⟩, true, false⟩, l, rfl, rfl, slE_keep (GG.out) HS.out, GG.out⟩

set_option maxRecDepth 100000 in
set_option maxHeartbeats 1000000 in
theorem refPost_D2 (cap : Int) (p : Option Addr) (cp : Nat) (lag : Bool) (x : Nt) (l : List Nt) (w : World) (h : SlE Ent w (.slice p 0 cp) l) (hl : l.length = 0) (hn : l.length ≤ 100) (hr : mayX Nt.ver ⟨cap, l, lag, false⟩ = true) (hc : ¬ (0 : Int) = cap) :
    Calls Try.prog 12 #[.agg (bx ⟨cap, ⟨p, 0, cp⟩, lag, false⟩), .agg (nt x)] w (BoxIs ⟨cap, l ++ [x], lag, false⟩ w) := by
  have HM := Lib.hid (fun W (g : Below w.heap.size w W) => refMay_any ⟨cap, ⟨p, 0, cp⟩, lag, false⟩ l W (slE_keep g h) (by omega))
  rw [show mayX Nt.ver (bp ⟨cap, ⟨p, 0, cp⟩, lag, false⟩ l) = true from hr] at HM
  obtain ⟨W0, hW0⟩ : ∃ W0, W0 = ((w.alloc (.cells (bx ⟨cap, ⟨p, 0, cp⟩, lag, false⟩) 24)).alloc (.cells (nt x) 31)).alloc (.cells (bx zbx) 24) := ⟨_, rfl⟩
  obtain ⟨hB, hM0, hM1, hM2, hZ⟩ := heap3 w _ _ _ _ _ _ W0 hW0
  have HB := Lib.hid hB
  have M0 := Lib.hid hM0
  have M1 := Lib.hid hM1
  have M2 := Lib.hid hM2
  have HW := Lib.hid hW0
  have HS := Lib.hid h
  have HL := Lib.hid hl
  have HN := Lib.hid hn
  clear h hl hn hr hW0 hB hM0 hM1 hM2 hZ
  have t2 : ((0 : Int) == cap) = false := by simpa using hc
  clear hc
  go_enter Try.func12, Try.ntmps12
  go_wp2_with fail
  rw [← HW.out]
  refine (HM.out W0 HB.out).mono ?_
  rintro e w1 ⟨rfl, g1⟩
  have N0 := Lib.hid (blk_keep g1 M0.out)
  have N1 := Lib.hid (blk_keep g1 M1.out)
  have N2 := Lib.hid (blk_keep g1 M2.out)
  have G1 := Lib.hid (belowT HB.out g1)
  obtain ⟨x0, x1, _, x3, x4, xl⟩ := bx_cells N0.out
  dsimp only at x0 x1 x3
  rw [sv_mk] at x1
  have xv := nt_rd0_ver N1.out
  have xn := ldA_block N1.out (nt_size _)
  have xz : w.heap.size + 1 < w1.heap.size := (Array.getElem?_eq_some_iff.1 N1.out).1
  have q2 := wrA_block N2.out (bx_size _)
  clear g1
  go_wp2_with fail
  go_quiet (fail)
  have N0' := Lib.hid (show (w1.drewN nq).heap[w.heap.size]? = _ from N0.out)
  have N1' := Lib.hid (show (w1.drewN nq).heap[w.heap.size + 1]? = _ from N1.out)
  have N2' := Lib.hid (show (w1.drewN nq).heap[w.heap.size + 2]? = _ from N2.out)
  have G1' := Lib.hid (belowD G1.out nq)
  clear N0 N1 N2 G1 x0 x1 x3 x4 xl xv xn xz q2
  generalize w1.drewN nq = w2 at *
  obtain ⟨x0, x1, _, x3, x4, xl⟩ := bx_cells N0'.out
  dsimp only at x0 x1 x3
  rw [sv_mk] at x1
  have xn := ldA_block N1'.out (nt_size _)
  have xz : w.heap.size + 1 < w2.heap.size := (Array.getElem?_eq_some_iff.1 N1'.out).1
  have q2 := wrA_block N2'.out (bx_size _)
  have S1 := Lib.hid (slE_keep G1'.out HS.out)
  go_wp2_with fail
  go_region_law (first
    | (refine step_append_E Knt _ rfl (.const (.slice none 0 0)) (.tmp 44) rfl _ _ [] rfl (ownE_nil _ _ _) _ l rfl (by first | exact slE_keep (belowD (Below.refl _ _) _) S1.out | exact slE_keep (belowD below1 _) S1.out) (by have := HN.out; simp; omega) (Nat.le_refl _) ?_
       intro v3 w3 ho3 hg3
       obtain ⟨base, hle, hb3, O3, E3, D3⟩ := app1E (w2 := w2) (by first | exact belowD (Below.refl _ _) _ | exact belowD below1 _) ho3 hg3
       have HLE := Lib.hid hle
       have HB3 := Lib.hid hb3
       have HO3 := Lib.hid O3
       have HE3 := Lib.hid E3
       (try (have NS : Hid (SlE Ent w3 (.slice (some ⟨w2.heap.size, 0, none⟩) 1 1) [x]) := slE_keep D3 (slE_lit w2.drew [x] 1 31 (nt x) w2.heap.size rfl rfl (by simp [cellsE, Ent, nt_list]))))
       have a0 := ldA_block (blk_keep E3 N1'.out) (nt_size _)
       have al : w.heap.size + 1 < w3.heap.size := (Array.getElem?_eq_some_iff.1 (blk_keep E3 N1'.out)).1
       obtain ⟨p3, c3, rfl⟩ := ownE_len O3 HL.out
       clear hle hb3 O3 E3 ho3 hg3 D3)
    | (refine step_append_E Knt _ rfl (.tmp 45) (.tmp 47) rfl base _ l rfl (by first | exact HO3.out | exact ownE_alloc HO3.out _) _ [x] rfl (by first | exact NS.out | exact slE_lit _ [x] 1 _ _ _ rfl rfl (by simp [cellsE, Ent, nt_list])) (by have := HN.out; simp; omega) (by first | exact HB3.out | exact Nat.le_trans HB3.out below1.size) ?_
       intro v4 w4 ho4 hg4
       have E4 : Hid (Below w2.heap.size w2 w4) := app2E (by first | exact HE3.out | exact belowT HE3.out below1) HLE.out (by first | exact HB3.out | exact Nat.le_trans HB3.out below1.size) (by first | exact HO3.out | exact ownE_alloc HO3.out _) hg4
       have O4 := Lib.hid (ownE_slE ho4)
       have F4 : Hid (∀ b, v4.ownBlock = some b → w2.heap.size ≤ b) := fun b hb => Nat.le_trans HLE.out (ownE_lt ho4 hb).1
       obtain ⟨p4, c4, rfl⟩ := slE_len O4.out (n := 0 + 1) (by rw [List.length_append, HL.out]; rfl)
       have P0 := Lib.hid (blk_keep E4.out N0'.out)
       have P2 := Lib.hid (blk_keep E4.out N2'.out)
       have z1 : w4.cell? ⟨w.heap.size, 1, none⟩ = some (.slice p (0) cp) := (bx_cells P0.out).2.1
       have zf : w4.frozen? ⟨w.heap.size, 1, none⟩ = false := frozen_of_row _ _ _ _ _ P0.out
       obtain ⟨W5, hW5⟩ : ∃ W5, W5 = w4.setCell ⟨w.heap.size, 1, none⟩ (.slice p4 (0 + 1) c4) := ⟨_, rfl⟩
       have R0 : Hid (W5.heap[w.heap.size]? = some (.cells (bx ⟨cap, ⟨p4, 0 + 1, c4⟩, lag, false⟩) 24 (0, 0))) := by
         have := heap_setCell_same P0.out 1 (.slice p4 (0 + 1) c4)
         rw [hW5]
         rwa [bx_sets_l] at this
       have R2 : Hid (W5.heap[w.heap.size + 2]? = some (.cells (bx zbx) 24 (0, 0))) := by
         rw [hW5, Below.heap_setCell _ _ _ _ (show w.heap.size + 2 ≠ w.heap.size by omega)]; exact P2.out
       have B5 : Hid (Below w.heap.size w W5) := by rw [hW5]; exact below_set (belowT G1'.out E4.out) (Nat.le_refl _)
       have L2 : w.heap.size + 2 < w2.heap.size := (Array.getElem?_eq_some_iff.1 N2'.out).1
       have S5 : Hid (SlE Ent W5 (.slice p4 (0 + 1) c4) (l ++ [x])) := by
         rw [hW5]
         exact slE_block O4.out (Nat.le_of_eq (by simp [World.setCell])) (fun j _ hj => by
           have := F4.out j hj
           rw [Below.heap_setCell _ _ _ _ (show j ≠ w.heap.size by omega)])
       have f0 := ldA_block R0.out (bx_size _)
       have f1 := wrA_block R2.out (bx_size _)
       have L3 := Lib.hid L2
       have HW5 := Lib.hid hW5
       rw [hW5] at f0 f1
       clear hW5 ho4 hg4 L2))
  all_goals
    go_wp2_with fail
    rw [← HW5.out]
    exact bodyPost_ret (results_agg1 Try.isAgg24 Try.sizeOf24 _ 4 rfl _ _ _ _ rfl (put_whole R2.out (bx_size _) (bx_size _))) rfl ⟨⟨cap, ⟨p4, 0 + 1, c4⟩, lag, false⟩, l ++ [x], rfl, rfl, slE_stA S5.out (fun e => by have := F4.out _ e; have := L3.out; omega), below_stA B5.out (by omega)⟩
/-- The document's Post. -/
theorem refPost_any (b : Bx) (x : Nt) (l : List Nt) (w : World) (h : SlE Ent w (sv b.l) l) (hn : l.length ≤ 100) :
    Calls Try.prog 12 #[.agg (bx b), .agg (nt x)] w (BoxIs (postX Nt.ver (bp b l) x) w) := by
  have hl := sv_len h
  obtain ⟨cap, ⟨p, n, cp⟩, lag, closed⟩ := b
  dsimp only at hl
  have e0 : postX Nt.ver (bp ⟨cap, ⟨p, n, cp⟩, lag, closed⟩ l) x = if (mayX Nt.ver ⟨cap, l, lag, closed⟩ && !closed && !lastB Nt.ver l x.ver) = true then (if (l.length : Int) = cap then ⟨cap, l, true, closed⟩ else ⟨cap, l ++ [x], lag, closed⟩) else ⟨cap, l, lag, closed⟩ := rfl
  rw [e0]
  clear e0
  cases hm : mayX Nt.ver ⟨cap, l, lag, closed⟩ with
  | false => exact refPost_A cap p n closed cp lag x l w h hl hn hm
  | true =>
    cases closed with
    | true => exact refPost_B cap p n cp lag x l w h hl hn hm
    | false =>
      unfold lastB
      cases n with
      | zero =>
        rw [dif_neg (by omega), if_pos (by rfl), hl]
        by_cases hc : ((0 : Nat) : Int) = cap
        · rw [if_pos hc]; exact refPost_D1 cap p cp lag x l w h hl hn hm hc
        · rw [if_neg hc]; exact refPost_D2 cap p cp lag x l w h hl hn hm hc
      | succ k =>
        obtain ⟨b1, o1, c1, e1, _, q1, x1⟩ := slE_ne h (by omega)
        unfold sv at e1
        injection e1 with e2 _ e3
        subst e2 e3
        have y := nts_ver x1 (i := k) (by omega)
        rw [itN_in l (by omega)] at y
        have e : l[l.length - 1]'(by omega) = l[k]'(by omega) := by congr 1; omega
        rw [dif_pos (by omega), e]
        by_cases hv : x.ver ≤ (l[k]'(by omega)).ver
        · rw [decide_eq_true hv, if_neg (by simp)]
          exact refPost_C cap b1 o1 k _ lag x l w h hl hn hm _ q1 y hv
        · rw [decide_eq_false hv, if_pos (by rfl), hl]
          by_cases hc : ((k + 1 : Nat) : Int) = cap
          · rw [if_pos hc]; exact refPost_E1 cap b1 o1 k _ lag x l w h hl hn hm _ q1 y hv (by omega)
          · rw [if_neg hc]; exact refPost_E2 cap b1 o1 k _ lag x l w h hl hn hm _ q1 y hv (by omega)
end Go.Proofs.Ytiljgnhnpoackaa
