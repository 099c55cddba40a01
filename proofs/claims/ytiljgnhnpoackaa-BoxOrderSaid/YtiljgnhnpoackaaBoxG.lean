/-
  Package box: do, with each deed, walked. (written by wip/gen/boxDo.py)
-/
import Derived.Test.YtiljgnhnpoackaaBoxF
namespace Go.Proofs.Ytiljgnhnpoackaa
open Go.RowKit

theorem heap4 (w : World) (a b c d : Array Value) (s t u v : TypeId) (W : World) (hW : W = (((w.alloc (.cells a s)).alloc (.cells b t)).alloc (.cells c u)).alloc (.cells d v)) : Below w.heap.size w W ∧ W.heap[w.heap.size]? = some (.cells a s (0, 0)) ∧ W.heap[w.heap.size + 1]? = some (.cells b t (0, 0)) ∧ W.heap[w.heap.size + 2]? = some (.cells c u (0, 0)) ∧ W.heap[w.heap.size + 3]? = some (.cells d v (0, 0)) ∧ W.heap.size = w.heap.size + 4 := by
  subst hW
  have e1 : ∀ o : Obj, (w.alloc o).heap.size = w.heap.size + 1 := fun o => by simp
  have e2 : ∀ o o' : Obj, ((w.alloc o).alloc o').heap.size = w.heap.size + 2 := fun o o' => by simp
  have e3 : ∀ o o' o'' : Obj, (((w.alloc o).alloc o').alloc o'').heap.size = w.heap.size + 3 := fun o o' o'' => by simp
  refine ⟨belowT (belowT (belowT below1 below1) below1) below1, ?_, ?_, ?_, ?_, by simp⟩
  · exact blk_keep below1 (blk_keep below1 (blk_keep below1 (heap_alloc_last w _)))
  · have := blk_keep (below1 (o := .cells d v)) (blk_keep (below1 (o := .cells c u)) (heap_alloc_last (w.alloc (.cells a s)) (.cells b t)))
    rwa [e1] at this
  · have := blk_keep (below1 (o := .cells d v)) (heap_alloc_last ((w.alloc (.cells a s)).alloc (.cells b t)) (.cells c u))
    rwa [e2] at this
  · have := heap_alloc_last (((w.alloc (.cells a s)).alloc (.cells b t)).alloc (.cells c u)) (.cells d v)
    rwa [e3] at this
theorem enters_may : ∀ args w, (callFunc 20 args).run Try.prog w = .ok (.enter 20 args) w := entersE Try.func20 (by kernel_rfl) (by kernel_rfl)

set_option maxRecDepth 100000 in
set_option maxHeartbeats 1000000 in
theorem do_post_n (cap : Int) (p : Option Addr) (n cp : Nat) (lag closed : Bool) (x : Nt) (l : List Nt) (w : World) (h : SlE Ent w (.slice p n cp) l) (hl : l.length = n) (hn : n ≤ 100) (B : BoxP Nt) (N : Nt) (ok : Bool)
    (hno : mayX Nt.ver ⟨cap, l, lag, closed⟩ = false → B = ⟨cap, l, lag, closed⟩ ∧ N = x ∧ ok = false)
    (hyes : mayX Nt.ver ⟨cap, l, lag, closed⟩ = true → ∀ (base : Nat) (q : Option Addr) (cq : Nat) (W : World), OwnE Ent W base (.slice q n cq) l → base ≤ W.heap.size → Calls Try.prog 24 #[.agg (ml ⟨⟨cap, ⟨q, n, cq⟩, lag, closed⟩, x⟩)] W (MailIs B N ok base W)) :
    Calls Try.prog 23 #[.func (.func 24) #[] #[], .agg (bx ⟨cap, ⟨p, n, cp⟩, lag, closed⟩), .agg (nt x)] w (MailIs B N ok w.heap.size w) := by
  have HC := Lib.hid (fun W (g : Below w.heap.size w W) => clone_any ⟨p, n, cp⟩ l W (slE_keep g h) (by omega))
  have HM := Lib.hid (fun W (g : Below w.heap.size w W) => may_any ⟨cap, ⟨p, n, cp⟩, lag, closed⟩ l W (slE_keep g h))
  obtain ⟨r, hr⟩ : ∃ r, r = mayX Nt.ver (bp ⟨cap, ⟨p, n, cp⟩, lag, closed⟩ l) := ⟨_, rfl⟩
  rw [← hr] at HM
  have hr' : mayX Nt.ver ⟨cap, l, lag, closed⟩ = r := hr.symm
  rw [hr'] at hno hyes
  obtain ⟨W0, hW0⟩ : ∃ W0, W0 = (((w.alloc (.cells (bx ⟨cap, ⟨p, n, cp⟩, lag, closed⟩) 24)).alloc (.cells (nt x) 31)).alloc (.cells (ml zml) 47)).alloc (.cells (ml ⟨⟨cap, ⟨p, n, cp⟩, lag, closed⟩, x⟩) 47) := ⟨_, rfl⟩
  obtain ⟨hB, hM0, _, hM2, hM3, hZ⟩ := heap4 w _ _ _ _ _ _ _ _ W0 hW0
  have HB := Lib.hid hB
  have M0 := Lib.hid hM0
  have M2 := Lib.hid hM2
  have M3 := Lib.hid hM3
  have HZ := Lib.hid hZ
  have HW := Lib.hid hW0
  have HL := Lib.hid hl
  have HNO := Lib.hid hno
  have HYES := Lib.hid hyes
  clear h hl hn hr hr' hW0 hB hM0 hM2 hM3 hZ hno hyes
  go_enter Try.func23, Try.ntmps23
  go_wp2_with fail
  rw [← HW.out]
  refine (HC.out W0 HB.out).mono ?_
  rintro e w1 ⟨v1, rfl, ho1, g1⟩
  obtain ⟨p1, c1, rfl⟩ := ownE_len ho1 HL.out
  have N0 := Lib.hid (blk_keep g1 M0.out)
  have N2 := Lib.hid (blk_keep g1 M2.out)
  have N3 := Lib.hid (blk_keep g1 M3.out)
  have x1 : w1.cell? ⟨w.heap.size + 3, 1, none⟩ = some (.slice p n cp) := (ml_cells N3.out).2.1
  have xf : w1.frozen? ⟨w.heap.size + 3, 1, none⟩ = false := frozen_of_row _ _ _ _ _ N3.out
  obtain ⟨W2, hW2⟩ : ∃ W2, W2 = w1.setCell ⟨w.heap.size + 3, 1, none⟩ (.slice p1 n c1) := ⟨_, rfl⟩
  have HW2 := Lib.hid hW2
  have O2 : Hid (OwnE Ent W2 W0.heap.size (.slice p1 n c1) l) := by
    rw [hW2]; exact ownE_set ho1 (by have := HZ.out; omega) _
  have P0 : Hid (W2.heap[w.heap.size]? = some (.cells (bx ⟨cap, ⟨p, n, cp⟩, lag, closed⟩) 24 (0, 0))) := by
    rw [hW2, Below.heap_setCell _ _ _ _ (show w.heap.size ≠ w.heap.size + 3 by omega)]; exact N0.out
  have P2 : Hid (W2.heap[w.heap.size + 2]? = some (.cells (ml zml) 47 (0, 0))) := by
    rw [hW2, Below.heap_setCell _ _ _ _ (show w.heap.size + 2 ≠ w.heap.size + 3 by omega)]; exact N2.out
  have P3 : Hid (W2.heap[w.heap.size + 3]? = some (.cells (ml ⟨⟨cap, ⟨p1, n, c1⟩, lag, closed⟩, x⟩) 47 (0, 0))) := by
    have := heap_setCell_same N3.out 1 (.slice p1 n c1)
    rw [hW2]
    rwa [ml_sets_box_l] at this
  have B2 : Hid (Below w.heap.size w W2) := by rw [hW2]; exact below_set (belowT HB.out g1) (by omega)
  have y0 : ldA W2 (.pointer (some ⟨w.heap.size, 0, none⟩)) 4 = some (bx ⟨cap, ⟨p, n, cp⟩, lag, closed⟩) := ldA_block P0.out (bx_size _)
  rw [hW2] at y0
  have Z2 : Hid (W0.heap.size ≤ W2.heap.size) := by rw [hW2]; exact Nat.le_trans g1.size (Nat.le_of_eq (by simp [World.setCell]))
  clear hW2 ho1 g1
  go_wp2_with fail
  rw [← HW2.out]
  refine (HM.out W2 B2.out).mono ?_
  rintro e w3 ⟨rfl, g3⟩
  have Q2 := Lib.hid (blk_keep g3 P2.out)
  have Q3 := Lib.hid (blk_keep g3 P3.out)
  have O3 := Lib.hid (ownE_keep g3 O2.out)
  have B3 := Lib.hid (belowT B2.out g3)
  have Z3 : Hid (W0.heap.size ≤ w3.heap.size) := Nat.le_trans Z2.out g3.size
  have z3 := ldA_block Q3.out (ml_size _)
  have z2 := wrA_block Q2.out (ml_size _)
  clear g3
  cases r with
  | false =>
    obtain ⟨rfl, rfl, rfl⟩ := HNO.out rfl
    go_wp2_with fail
    exact bodyPost_ret (results_agg2 Try.isAgg47 Try.sizeOf47 _ 6 7 rfl _ _ _ _ _ rfl rfl (put_whole Q2.out (ml_size _) (ml_size _))) rfl ⟨_, l, rfl, rfl, rfl, ownE_slE (ownE_stA O3.out (by have := HZ.out; omega)), (fun b hb => Nat.le_trans (by have := HZ.out; omega) (ownE_lt O3.out hb).1), below_stA B3.out (by omega)⟩
  | true =>
    go_wp2_with fail
    refine (HYES.out (by first | trivial | rfl) W0.heap.size p1 c1 w3 O3.out Z3.out).mono ?_
    rintro e w4 ⟨m4, l4, rfl, e1, e2, s4, f4, g4⟩
    have R2 : Hid (w4.heap[w.heap.size + 2]? = some (.cells (ml zml) 47 (0, 0))) := (g4.block _ (by have := HZ.out; omega)).trans Q2.out
    have q2 := wrA_block R2.out (ml_size _)
    have S4 := Lib.hid s4
    have F4 := Lib.hid f4
    have G4 := Lib.hid g4
    have E1 := Lib.hid e1
    have E2 := Lib.hid e2
    clear s4 f4 g4 e1 e2
    go_wp2_with fail
    exact bodyPost_ret (results_agg2 Try.isAgg47 Try.sizeOf47 _ 6 7 rfl _ _ _ _ _ rfl rfl (put_whole R2.out (ml_size _) (ml_size _))) rfl ⟨m4, l4, rfl, E1.out, E2.out, slE_block S4.out (by rw [size_stA]; exact Nat.le_refl _) (fun b _ hb => by
      have := F4.out b hb
      have := HZ.out
      exact heap_stA (by omega)), (fun b hb => Nat.le_trans (by have := HZ.out; omega) (F4.out b hb)), below_stA (B3.out.trans (G4.out.mono (by have := HZ.out; omega))) (by omega)⟩

set_option maxRecDepth 100000 in
set_option maxHeartbeats 1000000 in
theorem do_take_n (cap : Int) (p : Option Addr) (n cp : Nat) (lag closed : Bool) (x : Nt) (l : List Nt) (w : World) (h : SlE Ent w (.slice p n cp) l) (hl : l.length = n) (hn : n ≤ 100) (B : BoxP Nt) (N : Nt) (ok : Bool)
    (hno : mayX Nt.ver ⟨cap, l, lag, closed⟩ = false → B = ⟨cap, l, lag, closed⟩ ∧ N = x ∧ ok = false)
    (hyes : mayX Nt.ver ⟨cap, l, lag, closed⟩ = true → ∀ (base : Nat) (q : Option Addr) (cq : Nat) (W : World), OwnE Ent W base (.slice q n cq) l → base ≤ W.heap.size → Calls Try.prog 25 #[.agg (ml ⟨⟨cap, ⟨q, n, cq⟩, lag, closed⟩, x⟩)] W (MailIs B N ok base W)) :
    Calls Try.prog 23 #[.func (.func 25) #[] #[], .agg (bx ⟨cap, ⟨p, n, cp⟩, lag, closed⟩), .agg (nt x)] w (MailIs B N ok w.heap.size w) := by
  have HC := Lib.hid (fun W (g : Below w.heap.size w W) => clone_any ⟨p, n, cp⟩ l W (slE_keep g h) (by omega))
  have HM := Lib.hid (fun W (g : Below w.heap.size w W) => may_any ⟨cap, ⟨p, n, cp⟩, lag, closed⟩ l W (slE_keep g h))
  obtain ⟨r, hr⟩ : ∃ r, r = mayX Nt.ver (bp ⟨cap, ⟨p, n, cp⟩, lag, closed⟩ l) := ⟨_, rfl⟩
  rw [← hr] at HM
  have hr' : mayX Nt.ver ⟨cap, l, lag, closed⟩ = r := hr.symm
  rw [hr'] at hno hyes
  obtain ⟨W0, hW0⟩ : ∃ W0, W0 = (((w.alloc (.cells (bx ⟨cap, ⟨p, n, cp⟩, lag, closed⟩) 24)).alloc (.cells (nt x) 31)).alloc (.cells (ml zml) 47)).alloc (.cells (ml ⟨⟨cap, ⟨p, n, cp⟩, lag, closed⟩, x⟩) 47) := ⟨_, rfl⟩
  obtain ⟨hB, hM0, _, hM2, hM3, hZ⟩ := heap4 w _ _ _ _ _ _ _ _ W0 hW0
  have HB := Lib.hid hB
  have M0 := Lib.hid hM0
  have M2 := Lib.hid hM2
  have M3 := Lib.hid hM3
  have HZ := Lib.hid hZ
  have HW := Lib.hid hW0
  have HL := Lib.hid hl
  have HNO := Lib.hid hno
  have HYES := Lib.hid hyes
  clear h hl hn hr hr' hW0 hB hM0 hM2 hM3 hZ hno hyes
  go_enter Try.func23, Try.ntmps23
  go_wp2_with fail
  rw [← HW.out]
  refine (HC.out W0 HB.out).mono ?_
  rintro e w1 ⟨v1, rfl, ho1, g1⟩
  obtain ⟨p1, c1, rfl⟩ := ownE_len ho1 HL.out
  have N0 := Lib.hid (blk_keep g1 M0.out)
  have N2 := Lib.hid (blk_keep g1 M2.out)
  have N3 := Lib.hid (blk_keep g1 M3.out)
  have x1 : w1.cell? ⟨w.heap.size + 3, 1, none⟩ = some (.slice p n cp) := (ml_cells N3.out).2.1
  have xf : w1.frozen? ⟨w.heap.size + 3, 1, none⟩ = false := frozen_of_row _ _ _ _ _ N3.out
  obtain ⟨W2, hW2⟩ : ∃ W2, W2 = w1.setCell ⟨w.heap.size + 3, 1, none⟩ (.slice p1 n c1) := ⟨_, rfl⟩
  have HW2 := Lib.hid hW2
  have O2 : Hid (OwnE Ent W2 W0.heap.size (.slice p1 n c1) l) := by
    rw [hW2]; exact ownE_set ho1 (by have := HZ.out; omega) _
  have P0 : Hid (W2.heap[w.heap.size]? = some (.cells (bx ⟨cap, ⟨p, n, cp⟩, lag, closed⟩) 24 (0, 0))) := by
    rw [hW2, Below.heap_setCell _ _ _ _ (show w.heap.size ≠ w.heap.size + 3 by omega)]; exact N0.out
  have P2 : Hid (W2.heap[w.heap.size + 2]? = some (.cells (ml zml) 47 (0, 0))) := by
    rw [hW2, Below.heap_setCell _ _ _ _ (show w.heap.size + 2 ≠ w.heap.size + 3 by omega)]; exact N2.out
  have P3 : Hid (W2.heap[w.heap.size + 3]? = some (.cells (ml ⟨⟨cap, ⟨p1, n, c1⟩, lag, closed⟩, x⟩) 47 (0, 0))) := by
    have := heap_setCell_same N3.out 1 (.slice p1 n c1)
    rw [hW2]
    rwa [ml_sets_box_l] at this
  have B2 : Hid (Below w.heap.size w W2) := by rw [hW2]; exact below_set (belowT HB.out g1) (by omega)
  have y0 : ldA W2 (.pointer (some ⟨w.heap.size, 0, none⟩)) 4 = some (bx ⟨cap, ⟨p, n, cp⟩, lag, closed⟩) := ldA_block P0.out (bx_size _)
  rw [hW2] at y0
  have Z2 : Hid (W0.heap.size ≤ W2.heap.size) := by rw [hW2]; exact Nat.le_trans g1.size (Nat.le_of_eq (by simp [World.setCell]))
  clear hW2 ho1 g1
  go_wp2_with fail
  rw [← HW2.out]
  refine (HM.out W2 B2.out).mono ?_
  rintro e w3 ⟨rfl, g3⟩
  have Q2 := Lib.hid (blk_keep g3 P2.out)
  have Q3 := Lib.hid (blk_keep g3 P3.out)
  have O3 := Lib.hid (ownE_keep g3 O2.out)
  have B3 := Lib.hid (belowT B2.out g3)
  have Z3 : Hid (W0.heap.size ≤ w3.heap.size) := Nat.le_trans Z2.out g3.size
  have z3 := ldA_block Q3.out (ml_size _)
  have z2 := wrA_block Q2.out (ml_size _)
  clear g3
  cases r with
  | false =>
    obtain ⟨rfl, rfl, rfl⟩ := HNO.out rfl
    go_wp2_with fail
    exact bodyPost_ret (results_agg2 Try.isAgg47 Try.sizeOf47 _ 6 7 rfl _ _ _ _ _ rfl rfl (put_whole Q2.out (ml_size _) (ml_size _))) rfl ⟨_, l, rfl, rfl, rfl, ownE_slE (ownE_stA O3.out (by have := HZ.out; omega)), (fun b hb => Nat.le_trans (by have := HZ.out; omega) (ownE_lt O3.out hb).1), below_stA B3.out (by omega)⟩
  | true =>
    go_wp2_with fail
    refine (HYES.out (by first | trivial | rfl) W0.heap.size p1 c1 w3 O3.out Z3.out).mono ?_
    rintro e w4 ⟨m4, l4, rfl, e1, e2, s4, f4, g4⟩
    have R2 : Hid (w4.heap[w.heap.size + 2]? = some (.cells (ml zml) 47 (0, 0))) := (g4.block _ (by have := HZ.out; omega)).trans Q2.out
    have q2 := wrA_block R2.out (ml_size _)
    have S4 := Lib.hid s4
    have F4 := Lib.hid f4
    have G4 := Lib.hid g4
    have E1 := Lib.hid e1
    have E2 := Lib.hid e2
    clear s4 f4 g4 e1 e2
    go_wp2_with fail
    exact bodyPost_ret (results_agg2 Try.isAgg47 Try.sizeOf47 _ 6 7 rfl _ _ _ _ _ rfl rfl (put_whole R2.out (ml_size _) (ml_size _))) rfl ⟨m4, l4, rfl, E1.out, E2.out, slE_block S4.out (by rw [size_stA]; exact Nat.le_refl _) (fun b _ hb => by
      have := F4.out b hb
      have := HZ.out
      exact heap_stA (by omega)), (fun b hb => Nat.le_trans (by have := HZ.out; omega) (F4.out b hb)), below_stA (B3.out.trans (G4.out.mono (by have := HZ.out; omega))) (by omega)⟩

set_option maxRecDepth 100000 in
set_option maxHeartbeats 1000000 in
theorem do_shut_n (cap : Int) (p : Option Addr) (n cp : Nat) (lag closed : Bool) (x : Nt) (l : List Nt) (w : World) (h : SlE Ent w (.slice p n cp) l) (hl : l.length = n) (hn : n ≤ 100) (B : BoxP Nt) (N : Nt) (ok : Bool)
    (hno : mayX Nt.ver ⟨cap, l, lag, closed⟩ = false → B = ⟨cap, l, lag, closed⟩ ∧ N = x ∧ ok = false)
    (hyes : mayX Nt.ver ⟨cap, l, lag, closed⟩ = true → ∀ (base : Nat) (q : Option Addr) (cq : Nat) (W : World), OwnE Ent W base (.slice q n cq) l → base ≤ W.heap.size → Calls Try.prog 26 #[.agg (ml ⟨⟨cap, ⟨q, n, cq⟩, lag, closed⟩, x⟩)] W (MailIs B N ok base W)) :
    Calls Try.prog 23 #[.func (.func 26) #[] #[], .agg (bx ⟨cap, ⟨p, n, cp⟩, lag, closed⟩), .agg (nt x)] w (MailIs B N ok w.heap.size w) := by
  have HC := Lib.hid (fun W (g : Below w.heap.size w W) => clone_any ⟨p, n, cp⟩ l W (slE_keep g h) (by omega))
  have HM := Lib.hid (fun W (g : Below w.heap.size w W) => may_any ⟨cap, ⟨p, n, cp⟩, lag, closed⟩ l W (slE_keep g h))
  obtain ⟨r, hr⟩ : ∃ r, r = mayX Nt.ver (bp ⟨cap, ⟨p, n, cp⟩, lag, closed⟩ l) := ⟨_, rfl⟩
  rw [← hr] at HM
  have hr' : mayX Nt.ver ⟨cap, l, lag, closed⟩ = r := hr.symm
  rw [hr'] at hno hyes
  obtain ⟨W0, hW0⟩ : ∃ W0, W0 = (((w.alloc (.cells (bx ⟨cap, ⟨p, n, cp⟩, lag, closed⟩) 24)).alloc (.cells (nt x) 31)).alloc (.cells (ml zml) 47)).alloc (.cells (ml ⟨⟨cap, ⟨p, n, cp⟩, lag, closed⟩, x⟩) 47) := ⟨_, rfl⟩
  obtain ⟨hB, hM0, _, hM2, hM3, hZ⟩ := heap4 w _ _ _ _ _ _ _ _ W0 hW0
  have HB := Lib.hid hB
  have M0 := Lib.hid hM0
  have M2 := Lib.hid hM2
  have M3 := Lib.hid hM3
  have HZ := Lib.hid hZ
  have HW := Lib.hid hW0
  have HL := Lib.hid hl
  have HNO := Lib.hid hno
  have HYES := Lib.hid hyes
  clear h hl hn hr hr' hW0 hB hM0 hM2 hM3 hZ hno hyes
  go_enter Try.func23, Try.ntmps23
  go_wp2_with fail
  rw [← HW.out]
  refine (HC.out W0 HB.out).mono ?_
  rintro e w1 ⟨v1, rfl, ho1, g1⟩
  obtain ⟨p1, c1, rfl⟩ := ownE_len ho1 HL.out
  have N0 := Lib.hid (blk_keep g1 M0.out)
  have N2 := Lib.hid (blk_keep g1 M2.out)
  have N3 := Lib.hid (blk_keep g1 M3.out)
  have x1 : w1.cell? ⟨w.heap.size + 3, 1, none⟩ = some (.slice p n cp) := (ml_cells N3.out).2.1
  have xf : w1.frozen? ⟨w.heap.size + 3, 1, none⟩ = false := frozen_of_row _ _ _ _ _ N3.out
  obtain ⟨W2, hW2⟩ : ∃ W2, W2 = w1.setCell ⟨w.heap.size + 3, 1, none⟩ (.slice p1 n c1) := ⟨_, rfl⟩
  have HW2 := Lib.hid hW2
  have O2 : Hid (OwnE Ent W2 W0.heap.size (.slice p1 n c1) l) := by
    rw [hW2]; exact ownE_set ho1 (by have := HZ.out; omega) _
  have P0 : Hid (W2.heap[w.heap.size]? = some (.cells (bx ⟨cap, ⟨p, n, cp⟩, lag, closed⟩) 24 (0, 0))) := by
    rw [hW2, Below.heap_setCell _ _ _ _ (show w.heap.size ≠ w.heap.size + 3 by omega)]; exact N0.out
  have P2 : Hid (W2.heap[w.heap.size + 2]? = some (.cells (ml zml) 47 (0, 0))) := by
    rw [hW2, Below.heap_setCell _ _ _ _ (show w.heap.size + 2 ≠ w.heap.size + 3 by omega)]; exact N2.out
  have P3 : Hid (W2.heap[w.heap.size + 3]? = some (.cells (ml ⟨⟨cap, ⟨p1, n, c1⟩, lag, closed⟩, x⟩) 47 (0, 0))) := by
    have := heap_setCell_same N3.out 1 (.slice p1 n c1)
    rw [hW2]
    rwa [ml_sets_box_l] at this
  have B2 : Hid (Below w.heap.size w W2) := by rw [hW2]; exact below_set (belowT HB.out g1) (by omega)
  have y0 : ldA W2 (.pointer (some ⟨w.heap.size, 0, none⟩)) 4 = some (bx ⟨cap, ⟨p, n, cp⟩, lag, closed⟩) := ldA_block P0.out (bx_size _)
  rw [hW2] at y0
  have Z2 : Hid (W0.heap.size ≤ W2.heap.size) := by rw [hW2]; exact Nat.le_trans g1.size (Nat.le_of_eq (by simp [World.setCell]))
  clear hW2 ho1 g1
  go_wp2_with fail
  rw [← HW2.out]
  refine (HM.out W2 B2.out).mono ?_
  rintro e w3 ⟨rfl, g3⟩
  have Q2 := Lib.hid (blk_keep g3 P2.out)
  have Q3 := Lib.hid (blk_keep g3 P3.out)
  have O3 := Lib.hid (ownE_keep g3 O2.out)
  have B3 := Lib.hid (belowT B2.out g3)
  have Z3 : Hid (W0.heap.size ≤ w3.heap.size) := Nat.le_trans Z2.out g3.size
  have z3 := ldA_block Q3.out (ml_size _)
  have z2 := wrA_block Q2.out (ml_size _)
  clear g3
  cases r with
  | false =>
    obtain ⟨rfl, rfl, rfl⟩ := HNO.out rfl
    go_wp2_with fail
    exact bodyPost_ret (results_agg2 Try.isAgg47 Try.sizeOf47 _ 6 7 rfl _ _ _ _ _ rfl rfl (put_whole Q2.out (ml_size _) (ml_size _))) rfl ⟨_, l, rfl, rfl, rfl, ownE_slE (ownE_stA O3.out (by have := HZ.out; omega)), (fun b hb => Nat.le_trans (by have := HZ.out; omega) (ownE_lt O3.out hb).1), below_stA B3.out (by omega)⟩
  | true =>
    go_wp2_with fail
    refine (HYES.out (by first | trivial | rfl) W0.heap.size p1 c1 w3 O3.out Z3.out).mono ?_
    rintro e w4 ⟨m4, l4, rfl, e1, e2, s4, f4, g4⟩
    have R2 : Hid (w4.heap[w.heap.size + 2]? = some (.cells (ml zml) 47 (0, 0))) := (g4.block _ (by have := HZ.out; omega)).trans Q2.out
    have q2 := wrA_block R2.out (ml_size _)
    have S4 := Lib.hid s4
    have F4 := Lib.hid f4
    have G4 := Lib.hid g4
    have E1 := Lib.hid e1
    have E2 := Lib.hid e2
    clear s4 f4 g4 e1 e2
    go_wp2_with fail
    exact bodyPost_ret (results_agg2 Try.isAgg47 Try.sizeOf47 _ 6 7 rfl _ _ _ _ _ rfl rfl (put_whole R2.out (ml_size _) (ml_size _))) rfl ⟨m4, l4, rfl, E1.out, E2.out, slE_block S4.out (by rw [size_stA]; exact Nat.le_refl _) (fun b _ hb => by
      have := F4.out b hb
      have := HZ.out
      exact heap_stA (by omega)), (fun b hb => Nat.le_trans (by have := HZ.out; omega) (F4.out b hb)), below_stA (B3.out.trans (G4.out.mono (by have := HZ.out; omega))) (by omega)⟩
end Go.Proofs.Ytiljgnhnpoackaa
