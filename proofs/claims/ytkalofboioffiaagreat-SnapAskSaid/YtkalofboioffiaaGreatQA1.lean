import Derived.Test.YtkalofboioffiaaGreatQ16
namespace Go.Proofs.YtkalofboioffiaaGreat
open Go.RowKit
set_option maxRecDepth 200000
set_option maxHeartbeats 64000000
theorem ydb (H : zn1) (HX : zdn) (x : Sn) (s : Sg) (r : Rt) (slot : UInt64) (w : World) (h : LaidS w x s) :
  Calls Tryz.prog 6 #[.agg (sn x), .agg (rc r), .int .u64 (slot.toNat : Int)] w fun e w' => e = .returned (.bool true) ∧ Below w.heap.size w w' := by
 obtain ⟨W0, hW0⟩ : ∃ W0, W0 = ((w.alloc (.cells (sn x) 40)).alloc (.cells (rc r) 34)) := ⟨_, rfl⟩
 obtain ⟨hB, q0, q1, _⟩ := zdb w _ _ _ _ W0 hW0
 have S : Hid (Sw w W0 w.heap.size x s) := ⟨q0, h.keep hB, hB⟩
 have MR : Hid (W0.heap[w.heap.size + 1]? = some (.cells (rc r) 34 (0, 0))) := q1
 have HW := Lib.hid hW0
 have HAw := Lib.hid (fun W => zfp H HX W)
 obtain ⟨m, hm⟩ : ∃ m, m = mayN s := ⟨_, rfl⟩
 have HMy := Lib.hid (fun W hh => H.may x s W hh)
 rw [← hm] at HMy
 have HMt : Hid (m = true → mayN s = true) := fun e => hm.symm.trans e
 have HH := Lib.hid H
 have HY := Lib.hid HX
 clear hW0 hB q0 q1 h hm H HX
 go_enter Tryz.func6, Tryz.ntmps6
 go_upto_region 1 with fail
 rw [← HW.out]
 go_wp2_with fail
 refine (HAw.out _).mono ?_
 rintro e w1 ⟨rfl, g⟩
 replace S := Lib.hid (S.out.keep g)
 replace MR := Lib.hid (zab g MR.out)
 clear g
 have z := S.out.z
 go_wp2_with fail
 refine (HMy.out _ S.out.l).mono ?_
 rintro e w2 ⟨rfl, g⟩
 replace S := Lib.hid (S.out.keep g)
 replace MR := Lib.hid (zab g MR.out)
 clear g z
 cases m
 ·
  go_wp2_with fail
  go_ret
  exact ⟨rfl, S.out.g⟩
 ·
  have MS := Lib.hid (HMt.out rfl)
  clear HMt HMy HAw HW
  obtain ⟨A, hA⟩ : ∃ A, A = rsOf (askN s 6 r zr slot.toNat) := ⟨_, rfl⟩
  obtain ⟨B, hB⟩ : ∃ B, B = rsOf (askN s 7 r r (0 : UInt64).toNat) := ⟨_, rfl⟩
  obtain ⟨hd, hlaw⟩ := z0y MS.out r zr slot.toNat (0 : UInt64).toNat
  have HAn := Lib.hid (fun W hh => HH.out.ask x s ⟨6, ⟨none, 0, 0⟩, r, zr, slot⟩ W hh)
  dsimp only at HAn
  rw [← hA] at HAn
  have HSe := Lib.hid (fun W hh => HH.out.ask x s ⟨7, ⟨none, 0, 0⟩, r, r, 0⟩ W hh)
  dsimp only at HSe
  rw [← hB] at HSe
  have HHd := Lib.hid (fun W hh => HH.out.ask x s ⟨7, ⟨none, 0, 0⟩, s.fin.root, s.head, 0⟩ W hh)
  dsimp only at HHd
  rw [hd] at HHd
  rw [show rsOf { zRg with is := true } = ⟨0, zr, true, zcc⟩ from rfl] at HHd
  have HFi := Lib.hid (fun W hh => HY.out.find x.t.n s.t r W hh)
  have HLw := Lib.hid hlaw
  have HA := Lib.hid hA
  have HB := Lib.hid hB
  clear hA hB hd hlaw
  have z := S.out.z
  have zm := zag MR.out (zav _)
  go_wp2_with fail
  refine (HAn.out _ S.out.l).mono ?_
  rintro e w3 ⟨rfl, g⟩
  have Q1 : Hid ((w3.alloc (.cells (rs A) 51)).heap[w3.heap.size]? = some (.cells (rs A) 51 (0, 0))) := heap_alloc_last w3 _
  replace S := Lib.hid (S.out.keep (zac g (below1 (o := .cells (rs A) 51))))
  replace MR := Lib.hid (zab (zac g (below1 (o := .cells (rs A) 51))) MR.out)
  clear g z zm HAn
  have z := S.out.z
  have zm := zag MR.out (zav _)
  go_wp2_with fail
  refine (HSe.out _ S.out.l).mono ?_
  rintro e w4 ⟨rfl, g⟩
  have Q2 : Hid ((w4.alloc (.cells (rs B) 51)).heap[w4.heap.size]? = some (.cells (rs B) 51 (0, 0))) := heap_alloc_last w4 _
  replace S := Lib.hid (S.out.keep (zac g (below1 (o := .cells (rs B) 51))))
  replace MR := Lib.hid (zab (zac g (below1 (o := .cells (rs B) 51))) MR.out)
  replace Q1 := Lib.hid (zab (zac g (below1 (o := .cells (rs B) 51))) Q1.out)
  clear g z zm HSe
  have z := S.out.z
  have zr1 := S.out.zr
  have zh := S.out.zh
  go_wp2_with fail
  refine (HHd.out _ S.out.l).mono ?_
  rintro e w5 ⟨rfl, g⟩
  have Q3 : Hid ((w5.alloc (.cells (rs ⟨0, zr, true, zcc⟩) 51)).heap[w5.heap.size]? = some (.cells (rs ⟨0, zr, true, zcc⟩) 51 (0, 0))) := heap_alloc_last w5 _
  replace S := Lib.hid (S.out.keep (zac g (below1 (o := .cells (rs ⟨0, zr, true, zcc⟩) 51))))
  replace MR := Lib.hid (zab (zac g (below1 (o := .cells (rs ⟨0, zr, true, zcc⟩) 51))) MR.out)
  replace Q1 := Lib.hid (zab (zac g (below1 (o := .cells (rs ⟨0, zr, true, zcc⟩) 51))) Q1.out)
  replace Q2 := Lib.hid (zab (zac g (below1 (o := .cells (rs ⟨0, zr, true, zcc⟩) 51))) Q2.out)
  clear g z zr1 zh HHd
  have te := zk7 zr
  obtain ⟨X, hX⟩ : ∃ X, X = zal s.t r := ⟨_, rfl⟩
  rw [← hX] at HFi HLw
  clear hX
  rcases HLw.out with ⟨q1, q2, q3⟩ | ⟨q1, q2, q3⟩
  ·
   obtain rfl : A = ⟨5, zr, false, zcc⟩ := by rw [HA.out, q3]; rfl
   obtain rfl : B = ⟨5, zr, false, zcc⟩ := by rw [HB.out, q2]; rfl
   subst q1
   clear q2 q3 HA HB HLw
   have y1 := zfc Q3.out
   have y2 := zfy Q3.out
   have y3 := zfc Q2.out
   have y4 := zfy Q2.out
   dsimp only at y1 y2 y3 y4
   have zT := S.out.zT
   have zm := zag MR.out (zav _)
   go_upto_region 7 with fail
   obtain ⟨WR, hWR⟩ : ∃ W : World, W = w5.alloc (.cells (rs ⟨0, zr, true, zcc⟩) 51) := ⟨_, rfl⟩
   rw [← hWR] at S MR Q1 Q2 Q3 y1 y2 y3 y4 zT zm ⊢
   clear hWR
   have L0 := fun p : Wd WR.drew => zay y1 p
   have L1 := fun p : Wd WR.drew => zay y2 p
   have L2 := fun p : Wd WR.drew => zay y3 p
   have L3 := fun p : Wd WR.drew => zay y4 p
   have L4 := fun p : Wd WR.drew => za8 zT (by decide) p
   have L5 := fun p : Wd WR.drew => za8 zm (by decide) p
   clear y1 y2 y3 y4 zT zm
   refine zan [15] (by kernel_rfl) (by kernel_rfl) (by kernel_rfl) ?_
   repeat (first | (refine zae rfl rfl _ zaf ?_; (first | go_big_quiet_step (fail) | quiet_step (fail)); refine wpQuiet_nil ?_) | refine zah rfl ?_)
   refine zau rfl rfl rfl zbk #[.agg (tr ⟨x.t.n⟩), .agg (rc r)] rfl ?_
   refine (HFi.out _ (zad (zak (Below.refl _ _) 1) S.out.l.t)).mono ?_
   rintro e u ⟨rfl, g⟩
   refine ⟨_, rfl, g, ?_⟩
   simp only [Act.put, List.setIfInBounds_toArray, List.set_cons_zero, List.set_cons_succ]
   have GB : Hid (Below WR.heap.size WR u) := zac (zak (Below.refl _ _) 1) g
   clear g
   repeat (first | (refine zae rfl rfl _ zaf ?_; (first | go_big_quiet_step (fail) | quiet_step (fail)); refine wpQuiet_nil ?_) | refine zah rfl ?_)
   refine zbd ?_
   clear L0 L1 L2 L3 L4 L5
   replace S := Lib.hid (S.out.keep GB.out)
   replace MR := Lib.hid (zab GB.out MR.out)
   replace Q1 := Lib.hid (zab GB.out Q1.out)
   replace Q2 := Lib.hid (zab GB.out Q2.out)
   replace Q3 := Lib.hid (zab GB.out Q3.out)
   clear GB
   obtain ⟨w6, rfl⟩ : ∃ W : World, W = u := ⟨_, rfl⟩
   have y1 := zfc Q1.out
   have y2 := zjg Q1.out
   have y3 := zfy Q2.out
   dsimp only at y1 y2 y3
   go_wp2_with fail
   go_ret
   exact ⟨rfl, S.out.g⟩
  ·
   obtain rfl : B = ⟨0, zr, true, zcc⟩ := by rw [HB.out, q2]; rfl
   have t1 : decide (0 ≤ X) = true := decide_eq_true q1
   clear q2 q1 HB HLw
   have y1 := zfc Q3.out
   have y2 := zfy Q3.out
   have y3 := zfc Q2.out
   have y4 := zfy Q2.out
   dsimp only at y1 y2 y3 y4
   have zT := S.out.zT
   have zm := zag MR.out (zav _)
   go_upto_region 7 with fail
   obtain ⟨WR, hWR⟩ : ∃ W : World, W = w5.alloc (.cells (rs ⟨0, zr, true, zcc⟩) 51) := ⟨_, rfl⟩
   rw [← hWR] at S MR Q1 Q2 Q3 y1 y2 y3 y4 zT zm ⊢
   clear hWR
   have L0 := fun p : Wd WR.drew => zay y1 p
   have L1 := fun p : Wd WR.drew => zay y2 p
   have L2 := fun p : Wd WR.drew => zay y3 p
   have L3 := fun p : Wd WR.drew => zay y4 p
   have L4 := fun p : Wd WR.drew => za8 zT (by decide) p
   have L5 := fun p : Wd WR.drew => za8 zm (by decide) p
   clear y1 y2 y3 y4 zT zm
   refine zan [15] (by kernel_rfl) (by kernel_rfl) (by kernel_rfl) ?_
   repeat (first | (refine zae rfl rfl _ zaf ?_; (first | go_big_quiet_step (fail) | quiet_step (fail)); refine wpQuiet_nil ?_) | refine zah rfl ?_)
   refine zau rfl rfl rfl zbk #[.agg (tr ⟨x.t.n⟩), .agg (rc r)] rfl ?_
   refine (HFi.out _ (zad (zak (Below.refl _ _) 1) S.out.l.t)).mono ?_
   rintro e u ⟨rfl, g⟩
   refine ⟨_, rfl, g, ?_⟩
   simp only [Act.put, List.setIfInBounds_toArray, List.set_cons_zero, List.set_cons_succ]
   have GB : Hid (Below WR.heap.size WR u) := zac (zak (Below.refl _ _) 1) g
   clear g
   repeat (first | (refine zae rfl rfl _ zaf ?_; (first | go_big_quiet_step (fail) | quiet_step (fail)); refine wpQuiet_nil ?_) | refine zah rfl ?_)
   refine zbd ?_
   clear L0 L1 L2 L3 L4 L5
   replace S := Lib.hid (S.out.keep GB.out)
   replace MR := Lib.hid (zab GB.out MR.out)
   replace Q1 := Lib.hid (zab GB.out Q1.out)
   replace Q2 := Lib.hid (zab GB.out Q2.out)
   replace Q3 := Lib.hid (zab GB.out Q3.out)
   clear GB
   obtain ⟨w6, rfl⟩ : ∃ W : World, W = u := ⟨_, rfl⟩
   clear t1
   rcases q3 with q3 | ⟨q, q4, q5, q6, q7, q8⟩
   ·
    obtain rfl : A = ⟨8, zr, false, zcc⟩ := by rw [HA.out, q3]; rfl
    have y1 := zfc Q1.out
    have y2 := zjg Q1.out
    have y3 := zfy Q2.out
    dsimp only at y1 y2 y3
    clear q3 HA
    go_wp2_with fail
    go_ret
    exact ⟨rfl, S.out.g⟩
   ·
    obtain rfl : A = ⟨0, (nd s.t q).root, false, zcc⟩ := by rw [HA.out, q6]; rfl
    have HF2 := Lib.hid (fun W hh => HY.out.find x.t.n s.t (nd s.t q).root W hh)
    rw [q7] at HF2
    have HDe := Lib.hid (fun W hh => HH.out.ask x s ⟨7, ⟨none, 0, 0⟩, (nd s.t q).root, r, 0⟩ W hh)
    dsimp only at HDe
    rw [q8] at HDe
    rw [show rsOf { zRg with is := true } = ⟨0, zr, true, zcc⟩ from rfl] at HDe
    obtain ⟨⟨pt, nt, ct⟩, hst⟩ : ∃ s : SlV, s = x.t.n := ⟨_, rfl⟩
    have HSt := Lib.hid hst
    have hnt := zek S.out.l.t
    rw [← hst] at hnt
    have HNt : Hid (s.t.length = nt) := hnt
    clear hst hnt
    rw [HNt.out] at q4
    have Q4 := Lib.hid q4
    have Q5 := Lib.hid q5
    clear q4 q5 q6 q7 q8 HA
    have y1 := zfc Q1.out
    have y2 := zjg Q1.out
    dsimp only at y1 y2
    have zT := S.out.zT
    go_wp2_with fail
    refine (HF2.out _ S.out.l.t).mono ?_
    rintro e w7 ⟨rfl, g⟩
    replace S := Lib.hid (S.out.keep g)
    replace MR := Lib.hid (zab g MR.out)
    replace Q1 := Lib.hid (zab g Q1.out)
    replace Q2 := Lib.hid (zab g Q2.out)
    replace Q3 := Lib.hid (zab g Q3.out)
    clear g y1 y2 zT HF2
    have z := S.out.z
    have y2 := zjg Q1.out
    dsimp only at y2
    have zm := zag MR.out (zav _)
    go_wp2_with fail
    refine (HDe.out _ S.out.l).mono ?_
    rintro e w8 ⟨rfl, g⟩
    have Q9 : Hid ((w8.alloc (.cells (rs ⟨0, zr, true, zcc⟩) 51)).heap[w8.heap.size]? = some (.cells (rs ⟨0, zr, true, zcc⟩) 51 (0, 0))) := heap_alloc_last w8 _
    replace S := Lib.hid (S.out.keep (zac g (below1 (o := .cells (rs ⟨0, zr, true, zcc⟩) 51))))
    replace MR := Lib.hid (zab (zac g (below1 (o := .cells (rs ⟨0, zr, true, zcc⟩) 51))) MR.out)
    replace Q1 := Lib.hid (zab (zac g (below1 (o := .cells (rs ⟨0, zr, true, zcc⟩) 51))) Q1.out)
    replace Q2 := Lib.hid (zab (zac g (below1 (o := .cells (rs ⟨0, zr, true, zcc⟩) 51))) Q2.out)
    replace Q3 := Lib.hid (zab (zac g (below1 (o := .cells (rs ⟨0, zr, true, zcc⟩) 51))) Q3.out)
    clear g z y2 zm HDe
    have zt := S.out.zt
    rw [← HSt.out, za7] at zt
    obtain ⟨bq, oq, hpq, _, qq⟩ := zda (by have := S.out.l.t; rw [← HSt.out, za7] at this; exact this) (by rw [HNt.out]; have := Q4.out; omega)
    subst hpq
    have y1 := zfy Q9.out
    dsimp only at y1
    have yq := zgh qq (i := q) (by rw [HNt.out]; exact Q4.out)
    have q5 := Q5.out
    unfold sl at q5
    have q4 := Q4.out
    have t2 : decide (((nd s.t q).slot.toNat : Int) ≤ (slot.toNat : Int)) = true := decide_eq_true (by omega)
    have t2' : decide ((nd s.t q).slot.toNat ≤ slot.toNat) = true := decide_eq_true (by omega)
    have t3 : decide ((q : Int) < (nt : Int)) = true := decide_eq_true (by omega)
    have t3' : decide (q < nt) = true := decide_eq_true (by omega)
    have i0 : (0 : Int) ≤ (q : Int) := by omega
    have i1 : (q : Int) < (nt : Int) := by omega
    have t4 : decide (0 ≤ (q : Int)) = true := decide_eq_true i0
    clear q4 q5 qq
    go_wp2_with fail
    go_ret
    exact ⟨rfl, S.out.g⟩
theorem snapAskL (H : zn1) (HX : zdn) (x : Sn) (s : Sg) (r : Rt) (slot : UInt64) (w : World) (h : LaidS w x s) :
  Calls Tryz.prog 6 #[.agg (sn x), .agg (rc r), .int .u64 (slot.toNat : Int)] w fun e w' => e = .returned (.bool true) ∧ Below w.heap.size w w' := by
 exact ydb H HX x s r slot w h
end Go.Proofs.YtkalofboioffiaaGreat
