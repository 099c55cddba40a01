/-
  The law TreeTells, walked (written by wip/gen/lawTells06.py).
-/
import Derived.Test.YtnehebipikhejaaLaw06
import Derived.Test.YtnehebipikhejaaP06Insert
import Derived.Test.YtnehebipikhejaaP06Same
import Derived.Test.YtnehebipikhejaaP06New
import Derived.Test.YtnehebipikhejaaR06All
namespace Go.Proofs.Ytnehebipikhejaa
open Go.RowKit

theorem enters_cut06 : ∀ args w, (callFunc 17 args).run Try.prog w = .ok (.enter 17 args) w := entersE Try.func17 (by kernel_rfl) (by kernel_rfl)
theorem enters_refCut06 : ∀ args w, (callFunc 18 args).run Try.prog w = .ok (.enter 18 args) w := entersE Try.func18 (by kernel_rfl) (by kernel_rfl)
theorem enters_refSame06 : ∀ args w, (callFunc 16 args).run Try.prog w = .ok (.enter 16 args) w := entersE Try.func16 (by kernel_rfl) (by kernel_rfl)
theorem enters_refKids06 : ∀ args w, (callFunc 21 args).run Try.prog w = .ok (.enter 21 args) w := entersE Try.func21 (by kernel_rfl) (by kernel_rfl)
theorem enters_same06 : ∀ args w, (callFunc 25 args).run Try.prog w = .ok (.enter 25 args) w := entersE Try.func25 (by kernel_rfl) (by kernel_rfl)
theorem enters_refAt06 : ∀ args w, (callFunc 28 args).run Try.prog w = .ok (.enter 28 args) w := entersE Try.func28 (by kernel_rfl) (by kernel_rfl)
theorem enters_refFind06 : ∀ args w, (callFunc 30 args).run Try.prog w = .ok (.enter 30 args) w := entersE Try.func30 (by kernel_rfl) (by kernel_rfl)

/-- A tree in a variable. -/
structure Tw (w W : World) (T : Nat) (s : SlV) (l : List Nd) : Prop where
  box : W.heap[T]? = some (.cells (tr ⟨s⟩) 24 (0, 0))
  s : SlE Ene W (sv s) l
  g : Below w.heap.size w W
section
variable {w W W' : World} {T : Nat} {s : SlV} {l : List Nd}
theorem Tw.keep (h : Tw w W T s l) (g : Below W.heap.size W W') : Tw w W' T s l := ⟨blk_keep g h.box, slE_keep g h.s, belowT h.g g⟩
theorem Tw.z1 (h : Tw w W T s l) : ldA W (.pointer (some ⟨T, 0, none⟩)) 1 = some (tr ⟨s⟩) := (tr_cells h.box).2.1
theorem Tw.z0 (h : Tw w W T s l) : W.cell? ⟨T, 0, none⟩ = some (sv s) := (tr_cells h.box).1
end
theorem cutZ_len (l : List Nd) (i : Int) : (cutZ l i).length ≤ l.length := by
  unfold cutZ
  split
  · rw [cut_len]
    unfold keptT
    have := List.length_filter_le (keptB l i.toNat) (List.range l.length)
    rwa [List.length_range] at this
  · simp
theorem kidsI_len (l : List Nd) (i : Int) : (kidsI l i).length ≤ l.length := by
  unfold kidsI kidsZ
  rw [List.length_map]
  split
  · unfold kidsT
    have := List.length_filter_le (fun k => decide ((nd l k).parent = (i.toNat : Int))) (List.range l.length)
    rwa [List.length_range] at this
  · simp
theorem insL_len (l : List Nd) (r p : Rt) (s j : UInt64) : (insL l r p s j).length ≤ l.length + 1 := by
  unfold insL
  split
  · simp
  · omega
theorem newL_len (r : Rt) (q : UInt64) : (newL r q).length ≤ 1 := by
  unfold newL
  split <;> simp

set_option maxRecDepth 100000 in
set_option maxHeartbeats 8000000 in
theorem treeTellsL_many (p p' : Option Addr) (n cp m cq : Nat) (l k : List Nd) (x : Bk) (i j : Int) (q : UInt64) (w : World) (h : SlE Ene w (.slice p n cp) l) (h' : SlE Ene w (.slice p' m cq) k) (hb : 20 < n ∨ (n ≤ 20 ∧ 20 < m)) :
    Calls Try.prog 3 #[.agg (tr ⟨⟨p, n, cp⟩⟩), .agg (tr ⟨⟨p', m, cq⟩⟩), .agg (bk x), .int .i64 i, .int .i64 j, .int .u64 (q.toNat : Int)] w fun e w' => e = .returned (.bool true) ∧ Below w.heap.size w w' := by
  obtain ⟨W0, hW0⟩ : ∃ W0, W0 = ((w.alloc (.cells (tr ⟨⟨p, n, cp⟩⟩) 24)).alloc (.cells (tr ⟨⟨p', m, cq⟩⟩) 24)).alloc (.cells (bk x) 29) := ⟨_, rfl⟩
  obtain ⟨hB, h0, h1, h2, hz⟩ := heap3 w _ _ _ _ _ _ W0 hW0
  have A : Hid (Tw w W0 w.heap.size ⟨p, n, cp⟩ l) := ⟨h0, slE_keep hB h, hB⟩
  have C : Hid (Tw w W0 (w.heap.size + 1) ⟨p', m, cq⟩ k) := ⟨h1, slE_keep hB h', hB⟩
  have B := Lib.hid h2
  have HW := Lib.hid hW0
  have HBB := Lib.hid hb
  clear h h' hW0 hB h0 h1 h2 hz hb
  go_enter Try.func3, Try.ntmps3
  go_wp2_with fail
  rw [← HW.out]
  refine (awake_any _).mono ?_
  rintro e w1 ⟨rfl, g⟩
  replace A := Lib.hid (A.out.keep g)
  replace C := Lib.hid (C.out.keep g)
  replace B := Lib.hid (blk_keep g B.out)
  clear g
  have z0 := A.out.z0
  rw [sv_mk] at z0
  have z2 := C.out.z0
  rw [sv_mk] at z2
  rcases HBB.out with hb | ⟨ha, hb⟩
  · have t0 : decide ((20 : Int) < (n : Int)) = true := decide_eq_true (by omega)
    have t0' : decide (20 < n) = true := decide_eq_true hb
    clear hb
    go_wp2_with fail
    go_ret
    exact ⟨rfl, A.out.g⟩
  · have t0 : decide ((20 : Int) < (n : Int)) = false := decide_eq_false (by omega)
    have t0' : decide (20 < n) = false := decide_eq_false (by omega)
    have t1 : decide ((20 : Int) < (m : Int)) = true := decide_eq_true (by omega)
    have t1' : decide (20 < m) = true := decide_eq_true hb
    clear ha hb
    go_wp2_with fail
    go_ret
    exact ⟨rfl, A.out.g⟩

set_option maxRecDepth 100000 in
set_option maxHeartbeats 8000000 in
theorem treeTellsL_few (p p' : Option Addr) (n cp m cq : Nat) (l k : List Nd) (x : Bk) (i j : Int) (q : UInt64) (w : World) (h : SlE Ene w (.slice p n cp) l) (h' : SlE Ene w (.slice p' m cq) k) (hl : l.length = n) (hn : n ≤ 20) (hm : m ≤ 20) :
    Calls Try.prog 3 #[.agg (tr ⟨⟨p, n, cp⟩⟩), .agg (tr ⟨⟨p', m, cq⟩⟩), .agg (bk x), .int .i64 i, .int .i64 j, .int .u64 (q.toNat : Int)] w fun e w' => e = .returned (.bool true) ∧ Below w.heap.size w w' := by
  have hl20 : l.length ≤ 1000 := by omega
  have HIn := Lib.hid (fun W (g : SlE Ene W (.slice p n cp) l) => treeInsert ⟨p, n, cp⟩ l x W g (by omega))
  have HRIn := Lib.hid (fun W (g : SlE Ene W (.slice p n cp) l) => refInsert ⟨p, n, cp⟩ l x W g hl20)
  have HNw := Lib.hid (fun W => treeNew x.root q W)
  have HRNw := Lib.hid (fun W => refNew x.root q W)
  have HCt := Lib.hid (fun W (g : SlE Ene W (.slice p n cp) l) => treeCut ⟨p, n, cp⟩ l i W g)
  have HRCt := Lib.hid (fun W (g : SlE Ene W (.slice p n cp) l) => refCut ⟨p, n, cp⟩ l i W g hl20)
  have HKd := Lib.hid (fun W (g : SlE Ene W (.slice p n cp) l) => treeKids ⟨p, n, cp⟩ l i W g)
  have HRKd := Lib.hid (fun W (g : SlE Ene W (.slice p n cp) l) => refKids ⟨p, n, cp⟩ l i W g hl20)
  have HMa := Lib.hid (fun W (g : SlE Ene W (.slice p n cp) l) => treeMay ⟨p, n, cp⟩ l W g)
  have HRMa := Lib.hid (fun W (g : SlE Ene W (.slice p n cp) l) => refMayT ⟨p, n, cp⟩ l W g hl20)
  have HSa := Lib.hid (fun W (g : SlE Ene W (.slice p n cp) l) (g' : SlE Ene W (.slice p' m cq) k) => treeSame ⟨p, n, cp⟩ ⟨p', m, cq⟩ l k W g g' hl20)
  have HRSa := Lib.hid (fun W (g : SlE Ene W (.slice p n cp) l) (g' : SlE Ene W (.slice p' m cq) k) => refSame ⟨p, n, cp⟩ ⟨p', m, cq⟩ l k W g g' hl20)
  have HAb := Lib.hid (fun W (g : SlE Ene W (.slice p n cp) l) => treeAbove ⟨p, n, cp⟩ l i j W g)
  have HRAb := Lib.hid (fun W (g : SlE Ene W (.slice p n cp) l) => refAbove ⟨p, n, cp⟩ l i j W g hl20)
  have HAt := Lib.hid (fun W (g : SlE Ene W (.slice p n cp) l) => treeAt ⟨p, n, cp⟩ l i q W g)
  have HRAt := Lib.hid (fun W (g : SlE Ene W (.slice p n cp) l) => refAt ⟨p, n, cp⟩ l i q W g hl20)
  have HFi := Lib.hid (fun W (g : SlE Ene W (.slice p n cp) l) => treeFind ⟨p, n, cp⟩ l x.parent W g)
  have HRFi := Lib.hid (fun W (g : SlE Ene W (.slice p n cp) l) => refFind ⟨p, n, cp⟩ l x.parent W g hl20)
  have kI := Lib.hid (show (insL l x.root x.parent x.slot x.just).length ≤ 1000 by have := insL_len l x.root x.parent x.slot x.just; omega)
  have kN := Lib.hid (show (newL x.root q).length ≤ 1000 by have := newL_len x.root q; omega)
  have kC := Lib.hid (show (cutZ l i).length ≤ 1000 by have := cutZ_len l i; omega)
  have kK := Lib.hid (show (kidsI l i).length ≤ 1000 by have := kidsI_len l i; omega)
  generalize insL l x.root x.parent x.slot x.just = LI at *
  generalize insE l x.root x.parent x.slot = eI at *
  generalize newL x.root q = LN at *
  generalize newOk q = nb at *
  generalize cutZ l i = LC at *
  generalize kidsI l i = LK at *
  generalize decide (MayT l) = ma at *
  generalize decide (l = k) = sa at *
  generalize aboveZ l i j = ab at *
  generalize atZ l i q.toNat = av at *
  generalize findT l x.parent = fi at *
  obtain ⟨W0, hW0⟩ : ∃ W0, W0 = ((w.alloc (.cells (tr ⟨⟨p, n, cp⟩⟩) 24)).alloc (.cells (tr ⟨⟨p', m, cq⟩⟩) 24)).alloc (.cells (bk x) 29) := ⟨_, rfl⟩
  obtain ⟨hB, h0, h1, h2, hz⟩ := heap3 w _ _ _ _ _ _ W0 hW0
  have A : Hid (Tw w W0 w.heap.size ⟨p, n, cp⟩ l) := ⟨h0, slE_keep hB h, hB⟩
  have C : Hid (Tw w W0 (w.heap.size + 1) ⟨p', m, cq⟩ k) := ⟨h1, slE_keep hB h', hB⟩
  have B := Lib.hid h2
  have HW := Lib.hid hW0
  have t0 : decide ((20 : Int) < (n : Int)) = false := decide_eq_false (by omega)
  have t0' : decide (20 < n) = false := decide_eq_false (by omega)
  have t1 : decide ((20 : Int) < (m : Int)) = false := decide_eq_false (by omega)
  have t1' : decide (20 < m) = false := decide_eq_false (by omega)
  clear h h' hW0 hB h0 h1 h2 hz hl hn hm hl20
  go_enter Try.func3, Try.ntmps3
  go_wp2_with fail
  rw [← HW.out]
  refine (awake_any _).mono ?_
  rintro e w1 ⟨rfl, g⟩
  replace A := Lib.hid (A.out.keep g)
  replace C := Lib.hid (C.out.keep g)
  replace B := Lib.hid (blk_keep g B.out)
  clear g
  have z0 := A.out.z0
  rw [sv_mk] at z0
  have z2 := C.out.z0
  rw [sv_mk] at z2
  have z1 := A.out.z1
  have y1 := ldA_block B.out (bk_size x)
  go_wp2_with fail
  refine (HIn.out _ A.out.s).mono ?_
  rintro e w11 ⟨s1, rfl, hs, g⟩
  obtain ⟨W1, hW⟩ : ∃ W, W = w11.alloc (.cells (tr ⟨s1⟩) 24) := ⟨_, rfl⟩
  have g4 := belowT g (below1 (o := .cells (tr ⟨s1⟩) 24))
  rw [← hW] at g4
  replace A := Lib.hid (A.out.keep g4)
  replace C := Lib.hid (C.out.keep g4)
  replace B := Lib.hid (blk_keep g4 B.out)
  obtain ⟨t1_, ht⟩ : ∃ t, t = w11.heap.size := ⟨_, rfl⟩
  have X1 : Hid (Tw w W1 t1_ s1 LI) := by
    have a := A.out.g
    rw [hW] at a ⊢
    rw [ht]
    exact ⟨heap_alloc_last w11 _, slE_keep below1 hs, a⟩
  replace HW := Lib.hid hW
  have HT1 := Lib.hid ht
  clear hs g g4 hW ht
  clear z0 z1 z2 y1
  have z1 : ldA (w11.alloc (.cells (tr ⟨s1⟩) 24)) (.pointer (some ⟨w.heap.size, 0, none⟩)) 1 = some (tr ⟨⟨p, n, cp⟩⟩) := by rw [← HW.out]; exact A.out.z1
  have y1 : ldA (w11.alloc (.cells (tr ⟨s1⟩) 24)) (.pointer (some ⟨w.heap.size + 1 + 1, 0, none⟩)) 66 = some (bk x) := by rw [← HW.out]; exact ldA_block B.out (bk_size x)
  go_wp2_with fail
  rw [← HW.out, ← HT1.out]
  refine (HRIn.out _ A.out.s).mono ?_
  rintro e w12 ⟨s2, rfl, hs, g⟩
  obtain ⟨W2, hW⟩ : ∃ W, W = w12.alloc (.cells (tr ⟨s2⟩) 24) := ⟨_, rfl⟩
  have g4 := belowT g (below1 (o := .cells (tr ⟨s2⟩) 24))
  rw [← hW] at g4
  replace A := Lib.hid (A.out.keep g4)
  replace C := Lib.hid (C.out.keep g4)
  replace X1 := Lib.hid (X1.out.keep g4)
  replace B := Lib.hid (blk_keep g4 B.out)
  obtain ⟨t2_, ht⟩ : ∃ t, t = w12.heap.size := ⟨_, rfl⟩
  have X2 : Hid (Tw w W2 t2_ s2 LI) := by
    have a := A.out.g
    rw [hW] at a ⊢
    rw [ht]
    exact ⟨heap_alloc_last w12 _, slE_keep below1 hs, a⟩
  replace HW := Lib.hid hW
  have HT2 := Lib.hid ht
  clear hs g g4 hW ht
  clear z1 y1
  have y1 : ldA (w12.alloc (.cells (tr ⟨s2⟩) 24)) (.pointer (some ⟨w.heap.size + 1 + 1, 0, none⟩)) 32 = some (rc x.root) := by rw [← HW.out]; exact (bk_cells B.out).1
  go_wp2_with fail
  rw [← HW.out, ← HT2.out]
  refine (HNw.out _).mono ?_
  rintro e w13 ⟨s3, rfl, hs, g⟩
  obtain ⟨W3, hW⟩ : ∃ W, W = w13.alloc (.cells (tr ⟨s3⟩) 24) := ⟨_, rfl⟩
  have g4 := belowT g (below1 (o := .cells (tr ⟨s3⟩) 24))
  rw [← hW] at g4
  replace A := Lib.hid (A.out.keep g4)
  replace C := Lib.hid (C.out.keep g4)
  replace X1 := Lib.hid (X1.out.keep g4)
  replace X2 := Lib.hid (X2.out.keep g4)
  replace B := Lib.hid (blk_keep g4 B.out)
  obtain ⟨t3_, ht⟩ : ∃ t, t = w13.heap.size := ⟨_, rfl⟩
  have X3 : Hid (Tw w W3 t3_ s3 LN) := by
    have a := A.out.g
    rw [hW] at a ⊢
    rw [ht]
    exact ⟨heap_alloc_last w13 _, slE_keep below1 hs, a⟩
  replace HW := Lib.hid hW
  have HT3 := Lib.hid ht
  clear hs g g4 hW ht
  clear y1
  have y1 : ldA (w13.alloc (.cells (tr ⟨s3⟩) 24)) (.pointer (some ⟨w.heap.size + 1 + 1, 0, none⟩)) 32 = some (rc x.root) := by rw [← HW.out]; exact (bk_cells B.out).1
  go_wp2_with fail
  rw [← HW.out, ← HT3.out]
  refine (HRNw.out _).mono ?_
  rintro e w14 ⟨s4, rfl, hs, g⟩
  obtain ⟨W4, hW⟩ : ∃ W, W = w14.alloc (.cells (tr ⟨s4⟩) 24) := ⟨_, rfl⟩
  have g4 := belowT g (below1 (o := .cells (tr ⟨s4⟩) 24))
  rw [← hW] at g4
  replace A := Lib.hid (A.out.keep g4)
  replace C := Lib.hid (C.out.keep g4)
  replace X1 := Lib.hid (X1.out.keep g4)
  replace X2 := Lib.hid (X2.out.keep g4)
  replace X3 := Lib.hid (X3.out.keep g4)
  replace B := Lib.hid (blk_keep g4 B.out)
  obtain ⟨t4_, ht⟩ : ∃ t, t = w14.heap.size := ⟨_, rfl⟩
  have X4 : Hid (Tw w W4 t4_ s4 LN) := by
    have a := A.out.g
    rw [hW] at a ⊢
    rw [ht]
    exact ⟨heap_alloc_last w14 _, slE_keep below1 hs, a⟩
  replace HW := Lib.hid hW
  have HT4 := Lib.hid ht
  clear hs g g4 hW ht
  clear y1
  have x1 : ldA (w14.alloc (.cells (tr ⟨s4⟩) 24)) (.pointer (some ⟨t1_, 0, none⟩)) 1 = some (tr ⟨s1⟩) := by rw [← HW.out]; exact X1.out.z1
  have x2 : ldA (w14.alloc (.cells (tr ⟨s4⟩) 24)) (.pointer (some ⟨t2_, 0, none⟩)) 1 = some (tr ⟨s2⟩) := by rw [← HW.out]; exact X2.out.z1
  go_wp2_with fail
  rw [← HW.out, ← HT4.out]
  have hsm := refSame s1 s2 LI LI _ X1.out.s X2.out.s kI.out
  rw [decide_eq_true rfl] at hsm
  refine hsm.mono ?_
  rintro e v1 ⟨rfl, g⟩
  replace A := Lib.hid (A.out.keep g)
  replace C := Lib.hid (C.out.keep g)
  replace X1 := Lib.hid (X1.out.keep g)
  replace X2 := Lib.hid (X2.out.keep g)
  replace X3 := Lib.hid (X3.out.keep g)
  replace X4 := Lib.hid (X4.out.keep g)
  replace B := Lib.hid (blk_keep g B.out)
  clear g x1 x2 hsm
  have x3 := X3.out.z1
  have x4 := X4.out.z1
  go_wp2_with fail
  have hsm := refSame s3 s4 LN LN _ X3.out.s X4.out.s kN.out
  rw [decide_eq_true rfl] at hsm
  refine hsm.mono ?_
  rintro e v2 ⟨rfl, g⟩
  replace A := Lib.hid (A.out.keep g)
  replace C := Lib.hid (C.out.keep g)
  replace X1 := Lib.hid (X1.out.keep g)
  replace X2 := Lib.hid (X2.out.keep g)
  replace X3 := Lib.hid (X3.out.keep g)
  replace X4 := Lib.hid (X4.out.keep g)
  replace B := Lib.hid (blk_keep g B.out)
  clear g x3 x4 hsm
  clear X1 X2 X3 X4
  go_wp2_with fail
  have L0 := fun p : Wd v2.drew => wd_tr A.out.box p
  refine wp_region_lex [2, 5, 6] (by kernel_rfl) (by kernel_rfl) (by kernel_rfl) ?_
  repeat (first | (refine wpXL_quiet rfl rfl _ cls_begin ?_; (first | go_big_quiet_step (fail) | quiet_step (fail)); refine wpQuiet_nil ?_) | refine wpXL_skip rfl ?_)
  refine wpXL_call rfl rfl rfl enters_cut06 #[.agg (tr ⟨⟨p, n, cp⟩⟩), .int .i64 i] rfl ?_
  refine (HCt.out _ (slE_keep (belowD (Below.refl _ _) 1) A.out.s)).mono ?_
  rintro e u ⟨sc, rfl, hs, g⟩
  refine ⟨_, rfl, g, ?_⟩
  simp only [Act.put, List.setIfInBounds_toArray, List.set_cons_zero, List.set_cons_succ]
  have G : Hid (Below v2.heap.size v2 u) := belowT (belowD (Below.refl _ _) 1) g
  have SC := Lib.hid hs
  clear hs
  clear g
  repeat (first | (refine wpXL_quiet rfl rfl _ cls_begin ?_; (first | go_big_quiet_step (fail) | quiet_step (fail)); refine wpQuiet_nil ?_) | refine wpXL_skip rfl ?_)
  refine wpXL_call rfl rfl rfl enters_refCut06 #[.agg (tr ⟨⟨p, n, cp⟩⟩), .int .i64 i] rfl ?_
  refine (HRCt.out _ (slE_keep G.out A.out.s)).mono ?_
  rintro e u ⟨sd, rfl, hs, g⟩
  refine ⟨_, rfl, g, ?_⟩
  simp only [Act.put, List.setIfInBounds_toArray, List.set_cons_zero, List.set_cons_succ]
  replace G : Hid (Below v2.heap.size v2 u) := belowT G.out g
  have SD := Lib.hid hs
  replace SC := Lib.hid (slE_keep g SC.out)
  clear hs
  clear g
  repeat (first | (refine wpXL_quiet rfl rfl _ cls_begin ?_; (first | go_big_quiet_step (fail) | quiet_step (fail)); refine wpQuiet_nil ?_) | refine wpXL_skip rfl ?_)
  have hsm := refSame sc sd LC LC _ SC.out SD.out kC.out
  rw [decide_eq_true rfl] at hsm
  refine wpXL_call rfl rfl rfl enters_refSame06 #[.agg (tr ⟨sc⟩), .agg (tr ⟨sd⟩)] rfl ?_
  refine (hsm).mono ?_
  rintro e u ⟨rfl, g⟩
  refine ⟨_, rfl, g, ?_⟩
  simp only [Act.put, List.setIfInBounds_toArray, List.set_cons_zero, List.set_cons_succ]
  replace G : Hid (Below v2.heap.size v2 u) := belowT G.out g
  clear hsm
  clear g
  repeat (first | (refine wpXL_quiet rfl rfl _ cls_begin ?_; (first | go_big_quiet_step (fail) | quiet_step (fail)); refine wpQuiet_nil ?_) | refine wpXL_skip rfl ?_)
  refine wpXL_nil ?_
  clear L0 SC SD
  replace A := Lib.hid (A.out.keep G.out)
  replace C := Lib.hid (C.out.keep G.out)
  replace B := Lib.hid (blk_keep G.out B.out)
  clear G
  obtain ⟨v3, rfl⟩ : ∃ W : World, W = u := ⟨_, rfl⟩
  go_wp2_with fail
  have L0 := fun p : Wd v3.drew => wd_tr A.out.box p
  refine wp_region_lex [2, 5, 6] (by kernel_rfl) (by kernel_rfl) (by kernel_rfl) ?_
  repeat (first | (refine wpXL_quiet rfl rfl _ cls_begin ?_; (first | go_big_quiet_step (fail) | quiet_step (fail)); refine wpQuiet_nil ?_) | refine wpXL_skip rfl ?_)
  refine wpXL_call rfl rfl rfl enters_kids06 #[.agg (tr ⟨⟨p, n, cp⟩⟩), .int .i64 i] rfl ?_
  refine (HKd.out _ (slE_keep (belowD (Below.refl _ _) 1) A.out.s)).mono ?_
  rintro e u ⟨vc, rfl, hs, g⟩
  refine ⟨_, rfl, g, ?_⟩
  simp only [Act.put, List.setIfInBounds_toArray, List.set_cons_zero, List.set_cons_succ]
  have G : Hid (Below v3.heap.size v3 u) := belowT (belowD (Below.refl _ _) 1) g
  have SC := Lib.hid (ownE_slE hs)
  clear hs
  clear g
  repeat (first | (refine wpXL_quiet rfl rfl _ cls_begin ?_; (first | go_big_quiet_step (fail) | quiet_step (fail)); refine wpQuiet_nil ?_) | refine wpXL_skip rfl ?_)
  refine wpXL_call rfl rfl rfl enters_refKids06 #[.agg (tr ⟨⟨p, n, cp⟩⟩), .int .i64 i] rfl ?_
  refine (HRKd.out _ (slE_keep G.out A.out.s)).mono ?_
  rintro e u ⟨vd, rfl, hs, g⟩
  refine ⟨_, rfl, g, ?_⟩
  simp only [Act.put, List.setIfInBounds_toArray, List.set_cons_zero, List.set_cons_succ]
  replace G : Hid (Below v3.heap.size v3 u) := belowT G.out g
  have SD := Lib.hid (ownE_slE hs)
  replace SC := Lib.hid (slE_keep g SC.out)
  clear hs
  clear g
  repeat (first | (refine wpXL_quiet rfl rfl _ cls_begin ?_; (first | go_big_quiet_step (fail) | quiet_step (fail)); refine wpQuiet_nil ?_) | refine wpXL_skip rfl ?_)
  have hsm := ref04Ints vc vd LK LK _ SC.out SD.out kK.out
  rw [decide_eq_true rfl] at hsm
  refine wpXL_call rfl rfl rfl enters_ref04Ints #[vc, vd] rfl ?_
  refine (hsm).mono ?_
  rintro e u ⟨rfl, g⟩
  refine ⟨_, rfl, g, ?_⟩
  simp only [Act.put, List.setIfInBounds_toArray, List.set_cons_zero, List.set_cons_succ]
  replace G : Hid (Below v3.heap.size v3 u) := belowT G.out g
  clear hsm
  clear g
  repeat (first | (refine wpXL_quiet rfl rfl _ cls_begin ?_; (first | go_big_quiet_step (fail) | quiet_step (fail)); refine wpQuiet_nil ?_) | refine wpXL_skip rfl ?_)
  refine wpXL_nil ?_
  clear L0 SC SD
  replace A := Lib.hid (A.out.keep G.out)
  replace C := Lib.hid (C.out.keep G.out)
  replace B := Lib.hid (blk_keep G.out B.out)
  clear G
  obtain ⟨v4, rfl⟩ : ∃ W : World, W = u := ⟨_, rfl⟩
  have z1 := A.out.z1
  go_wp2_with fail
  refine (HRMa.out v4 A.out.s).mono ?_
  rintro e v5 ⟨rfl, g⟩
  replace A := Lib.hid (A.out.keep g)
  replace C := Lib.hid (C.out.keep g)
  replace B := Lib.hid (blk_keep g B.out)
  clear g z1
  have z1 := A.out.z1
  have z2 := C.out.z1
  go_wp2_with fail
  refine (HRSa.out v5 A.out.s C.out.s).mono ?_
  rintro e v6 ⟨rfl, g⟩
  replace A := Lib.hid (A.out.keep g)
  replace C := Lib.hid (C.out.keep g)
  replace B := Lib.hid (blk_keep g B.out)
  clear g z1
  have z1 := A.out.z1
  clear z2
  go_wp2_with fail
  refine (HRAb.out v6 A.out.s).mono ?_
  rintro e v7 ⟨rfl, g⟩
  replace A := Lib.hid (A.out.keep g)
  replace C := Lib.hid (C.out.keep g)
  replace B := Lib.hid (blk_keep g B.out)
  clear g z1
  have z1 := A.out.z1
  clear z1
  go_wp2_with fail
  have L0 := fun p : Wd v7.drew => wd_tr A.out.box p
  have L1 := fun p : Wd v7.drew => wd_tr C.out.box p
  have L2 := fun p : Wd v7.drew => wd_ld (bk_cells B.out).2.1 (by decide) p
  refine wp_region_lex [22, 26, 29, 33, 37, 41, 45, 49, 52, 56, 60] (by kernel_rfl) (by kernel_rfl) (by kernel_rfl) ?_
  repeat (first | (refine wpXL_quiet rfl rfl _ cls_begin ?_; (first | go_big_quiet_step (fail) | quiet_step (fail)); refine wpQuiet_nil ?_) | refine wpXL_skip rfl ?_)
  refine wpXL_call rfl rfl rfl enters_may06 #[.agg (tr ⟨⟨p, n, cp⟩⟩)] rfl ?_
  refine (HMa.out _ (slE_keep (belowD (Below.refl _ _) 1) A.out.s)).mono ?_
  rintro e u ⟨rfl, g⟩
  refine ⟨_, rfl, g, ?_⟩
  simp only [Act.put, List.setIfInBounds_toArray, List.set_cons_zero, List.set_cons_succ]
  have G : Hid (Below v7.heap.size v7 u) := belowT (belowD (Below.refl _ _) 1) g
  clear g
  repeat (first | (refine wpXL_quiet rfl rfl _ cls_begin ?_; (first | go_big_quiet_step (fail) | quiet_step (fail)); refine wpQuiet_nil ?_) | refine wpXL_skip rfl ?_)
  refine wpXL_eff rfl rfl (.bool true) _ rfl (Below.refl _ _) ?_
  simp only [Act.put, List.setIfInBounds_toArray, List.set_cons_zero, List.set_cons_succ]
  repeat (first | (refine wpXL_quiet rfl rfl _ cls_begin ?_; (first | go_big_quiet_step (fail) | quiet_step (fail)); refine wpQuiet_nil ?_) | refine wpXL_skip rfl ?_)
  refine wpXL_call rfl rfl rfl enters_same06 #[.agg (tr ⟨⟨p, n, cp⟩⟩), .agg (tr ⟨⟨p', m, cq⟩⟩)] rfl ?_
  refine (HSa.out _ (slE_keep G.out A.out.s) (slE_keep G.out C.out.s)).mono ?_
  rintro e u ⟨rfl, g⟩
  refine ⟨_, rfl, g, ?_⟩
  simp only [Act.put, List.setIfInBounds_toArray, List.set_cons_zero, List.set_cons_succ]
  replace G : Hid (Below v7.heap.size v7 u) := belowT G.out g
  clear g
  repeat (first | (refine wpXL_quiet rfl rfl _ cls_begin ?_; (first | go_big_quiet_step (fail) | quiet_step (fail)); refine wpQuiet_nil ?_) | refine wpXL_skip rfl ?_)
  refine wpXL_eff rfl rfl (.bool true) _ rfl (Below.refl _ _) ?_
  simp only [Act.put, List.setIfInBounds_toArray, List.set_cons_zero, List.set_cons_succ]
  repeat (first | (refine wpXL_quiet rfl rfl _ cls_begin ?_; (first | go_big_quiet_step (fail) | quiet_step (fail)); refine wpQuiet_nil ?_) | refine wpXL_skip rfl ?_)
  refine wpXL_call rfl rfl rfl enters_above06 #[.agg (tr ⟨⟨p, n, cp⟩⟩), .int .i64 i, .int .i64 j] rfl ?_
  refine (HAb.out _ (slE_keep G.out A.out.s)).mono ?_
  rintro e u ⟨rfl, g⟩
  refine ⟨_, rfl, g, ?_⟩
  simp only [Act.put, List.setIfInBounds_toArray, List.set_cons_zero, List.set_cons_succ]
  replace G : Hid (Below v7.heap.size v7 u) := belowT G.out g
  clear g
  repeat (first | (refine wpXL_quiet rfl rfl _ cls_begin ?_; (first | go_big_quiet_step (fail) | quiet_step (fail)); refine wpQuiet_nil ?_) | refine wpXL_skip rfl ?_)
  refine wpXL_eff rfl rfl (.bool true) _ rfl (Below.refl _ _) ?_
  simp only [Act.put, List.setIfInBounds_toArray, List.set_cons_zero, List.set_cons_succ]
  repeat (first | (refine wpXL_quiet rfl rfl _ cls_begin ?_; (first | go_big_quiet_step (fail) | quiet_step (fail)); refine wpQuiet_nil ?_) | refine wpXL_skip rfl ?_)
  refine wpXL_call rfl rfl rfl enters_at06 #[.agg (tr ⟨⟨p, n, cp⟩⟩), .int .i64 i, .int .u64 (q.toNat : Int)] rfl ?_
  refine (HAt.out _ (slE_keep G.out A.out.s)).mono ?_
  rintro e u ⟨rfl, g⟩
  refine ⟨_, rfl, g, ?_⟩
  simp only [Act.put, List.setIfInBounds_toArray, List.set_cons_zero, List.set_cons_succ]
  replace G : Hid (Below v7.heap.size v7 u) := belowT G.out g
  clear g
  repeat (first | (refine wpXL_quiet rfl rfl _ cls_begin ?_; (first | go_big_quiet_step (fail) | quiet_step (fail)); refine wpQuiet_nil ?_) | refine wpXL_skip rfl ?_)
  refine wpXL_call rfl rfl rfl enters_refAt06 #[.agg (tr ⟨⟨p, n, cp⟩⟩), .int .i64 i, .int .u64 (q.toNat : Int)] rfl ?_
  refine (HRAt.out _ (slE_keep G.out A.out.s)).mono ?_
  rintro e u ⟨rfl, g⟩
  refine ⟨_, rfl, g, ?_⟩
  simp only [Act.put, List.setIfInBounds_toArray, List.set_cons_zero, List.set_cons_succ]
  replace G : Hid (Below v7.heap.size v7 u) := belowT G.out g
  clear g
  repeat (first | (refine wpXL_quiet rfl rfl _ cls_begin ?_; (first | go_big_quiet_step (fail) | quiet_step (fail)); refine wpQuiet_nil ?_) | refine wpXL_skip rfl ?_)
  refine wpXL_eff rfl rfl (.bool true) _ rfl (Below.refl _ _) ?_
  simp only [Act.put, List.setIfInBounds_toArray, List.set_cons_zero, List.set_cons_succ]
  repeat (first | (refine wpXL_quiet rfl rfl _ cls_begin ?_; (first | go_big_quiet_step (fail) | quiet_step (fail)); refine wpQuiet_nil ?_) | refine wpXL_skip rfl ?_)
  refine wpXL_call rfl rfl rfl enters_find06 #[.agg (tr ⟨⟨p, n, cp⟩⟩), .agg (rc x.parent)] rfl ?_
  refine (HFi.out _ (slE_keep G.out A.out.s)).mono ?_
  rintro e u ⟨rfl, g⟩
  refine ⟨_, rfl, g, ?_⟩
  simp only [Act.put, List.setIfInBounds_toArray, List.set_cons_zero, List.set_cons_succ]
  replace G : Hid (Below v7.heap.size v7 u) := belowT G.out g
  clear g
  repeat (first | (refine wpXL_quiet rfl rfl _ cls_begin ?_; (first | go_big_quiet_step (fail) | quiet_step (fail)); refine wpQuiet_nil ?_) | refine wpXL_skip rfl ?_)
  refine wpXL_call rfl rfl rfl enters_refFind06 #[.agg (tr ⟨⟨p, n, cp⟩⟩), .agg (rc x.parent)] rfl ?_
  refine (HRFi.out _ (slE_keep G.out A.out.s)).mono ?_
  rintro e u ⟨rfl, g⟩
  refine ⟨_, rfl, g, ?_⟩
  simp only [Act.put, List.setIfInBounds_toArray, List.set_cons_zero, List.set_cons_succ]
  replace G : Hid (Below v7.heap.size v7 u) := belowT G.out g
  clear g
  repeat (first | (refine wpXL_quiet rfl rfl _ cls_begin ?_; (first | go_big_quiet_step (fail) | quiet_step (fail)); refine wpQuiet_nil ?_) | refine wpXL_skip rfl ?_)
  refine wpXL_nil ?_
  go_wp2_with fail
  go_ret
  exact ⟨rfl, belowT A.out.g G.out⟩
/-- The law. -/
theorem treeTellsL (s : Tr) (l : List Nd) (t : Tr) (k : List Nd) (x : Bk) (i j : Int) (q : UInt64) (w : World) (h : SlE Ene w (sv s.n) l) (h' : SlE Ene w (sv t.n) k) :
    Calls Try.prog 3 #[.agg (tr s), .agg (tr t), .agg (bk x), .int .i64 i, .int .i64 j, .int .u64 (q.toNat : Int)] w fun e w' => e = .returned (.bool true) ∧ Below w.heap.size w w' := by
  obtain ⟨s⟩ := s
  obtain ⟨t⟩ := t
  have hn := sv_lenN h
  obtain ⟨p, n, cp⟩ := s
  obtain ⟨p', m, cq⟩ := t
  dsimp only at hn
  by_cases hb : 20 < n ∨ (n ≤ 20 ∧ 20 < m)
  · exact treeTellsL_many p p' n cp m cq l k x i j q w h h' hb
  · exact treeTellsL_few p p' n cp m cq l k x i j q w h h' hn (by omega) (by omega)
end Go.Proofs.Ytnehebipikhejaa
