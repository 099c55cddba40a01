import Derived.Test.YtkalofboioffiaaGreatQ16
namespace Go.Proofs.YtkalofboioffiaaGreat
open Go.RowKit
set_option maxRecDepth 200000
set_option maxHeartbeats 64000000
section
def CutR (W0 : World) (R : Rs) (t : Value) (wx : World) : Prop := ∃ T : Nat, t = .pointer (some ⟨T, 0, none⟩) ∧ wx.heap[T]? = some (.cells (rs R) 51 (0, 0)) ∧ Below W0.heap.size W0 wx
theorem yj8 {c r : Array Value} (h : r.size = c.size) : za2 c 0 r = r := by
 apply Array.toList_inj.1
 unfold za2
 simp only [List.take_zero, List.nil_append, Nat.zero_add]
 rw [List.drop_of_length_le (by rw [Array.length_toList]; omega), List.append_nil]
@[local go_sem] theorem yti (x : Cl) : za2 (cl x) 66 #[.int .u64 18446744073709551615] = cl { x with slot := 18446744073709551615 } := zj7 x 18446744073709551615
theorem z13 (H : zn1) (HX : zdn) (x : Sn) (s : Sg) (i : Int) (w : World) (h : LaidS w x s) :
  Calls Tryz.prog 7 #[.agg (sn x), .int .i64 i] w fun e w' => e = .returned (.bool true) ∧ Below w.heap.size w w' := by
 obtain ⟨W0, hW0⟩ : ∃ W0, W0 = (w.alloc (.cells (sn x) 40)) := ⟨_, rfl⟩
 have hB : Below w.heap.size w W0 := by rw [hW0]; exact below1
 have q0 : W0.heap[w.heap.size]? = some (.cells (sn x) 40 (0, 0)) := by rw [hW0]; exact heap_alloc_last w _
 have S : Hid (Sw w W0 w.heap.size x s) := ⟨q0, h.keep hB, hB⟩
 have HW := Lib.hid hW0
 have HAw := Lib.hid (fun W => zfp H HX W)
 obtain ⟨m, hm⟩ : ∃ m, m = mayN s := ⟨_, rfl⟩
 have HMy := Lib.hid (fun W hh => H.may x s W hh)
 rw [← hm] at HMy
 have HMt : Hid (m = true → mayN s = true) := fun e => hm.symm.trans e
 have HH := Lib.hid H
 have HY := Lib.hid HX
 clear hW0 hB q0 h hm H HX
 go_enter Tryz.func7, Tryz.ntmps7
 go_upto_region 1 with fail
 rw [← HW.out]
 go_wp2_with fail
 refine (HAw.out _).mono ?_
 rintro e w1 ⟨rfl, g⟩
 replace S := Lib.hid (S.out.keep g)
 clear g
 have z := S.out.z
 go_wp2_with fail
 refine (HMy.out _ S.out.l).mono ?_
 rintro e w2 ⟨rfl, g⟩
 replace S := Lib.hid (S.out.keep g)
 clear g z
 cases m
 ·
  go_wp2_with fail
  go_ret
  exact ⟨rfl, S.out.g⟩
 ·
  have MS := Lib.hid (HMt.out rfl)
  clear HMt HMy HAw HW
  obtain ⟨⟨pt, nt, ct⟩, hst⟩ : ∃ s : SlV, s = x.t.n := ⟨_, rfl⟩
  have HSt := Lib.hid hst
  have hnt := zek S.out.l.t
  rw [← hst] at hnt
  have HNt : Hid (s.t.length = nt) := hnt
  clear hst hnt
  have zt := S.out.zt
  rw [← HSt.out, za7] at zt
  by_cases ta : i < 0
  ·
   have tai : decide (i < 0) = true := decide_eq_true ta
   clear ta
   go_wp2_with fail
   go_ret
   exact ⟨rfl, S.out.g⟩
  ·
   have tai : decide (i < 0) = false := decide_eq_false ta
   by_cases tb : (nt : Int) ≤ i
   ·
    have tbi : decide ((nt : Int) ≤ i) = true := decide_eq_true tb
    clear ta tb
    go_wp2_with fail
    go_ret
    exact ⟨rfl, S.out.g⟩
   ·
    have tbi : decide ((nt : Int) ≤ i) = false := decide_eq_false tb
    obtain ⟨j, rfl⟩ : ∃ j : Nat, i = j := ⟨i.toNat, by omega⟩
    have lj : j < nt := by omega
    have tbn : decide (nt ≤ j) = false := decide_eq_false (by omega)
    obtain ⟨k1, k2, k3, k4⟩ := zu8 MS.out (i := j) (by rw [HNt.out]; exact lj) zr
    unfold sl at k2 k4
    have LJ := Lib.hid lj
    have K1 := Lib.hid k1
    have K4 := Lib.hid k4
    have HA1 := Lib.hid (fun W hh => HH.out.ask x s ⟨6, ⟨none, 0, 0⟩, (nd s.t j).root, zr, (nd s.t j).slot⟩ W hh)
    dsimp only at HA1
    rw [k2] at HA1
    have HA2 := Lib.hid (fun W hh => HH.out.ask x s ⟨6, ⟨none, 0, 0⟩, (nd s.t j).root, zr, 18446744073709551615⟩ W hh)
    dsimp only at HA2
    rw [show (18446744073709551615 : UInt64).toNat = 18446744073709551615 from rfl, k3] at HA2
    have HFi := Lib.hid (fun W hh => HY.out.find x.t.n s.t (nd s.t j).root W hh)
    rw [k1] at HFi
    rw [show rsOf { zRg with r := (nd s.t j).root } = ⟨0, (nd s.t j).root, false, zcc⟩ from rfl] at HA1 HA2
    obtain ⟨bq, oq, hpq, _, qq⟩ := zda (by have := S.out.l.t; rw [← HSt.out, za7] at this; exact this) (by rw [HNt.out]; have := lj; omega)
    subst hpq
    have yn := zjv qq (i := j) (by rw [HNt.out]; exact lj)
    have i0 : (0 : Int) ≤ (j : Int) := by omega
    have i1 : (j : Int) < (nt : Int) := by omega
    clear k1 k2 k3 k4 lj ta tb
    go_upto_region 5 with fail
    have Q0 : Hid ((w2.alloc (.cells (ne (nd s.t j)) 63)).heap[w2.heap.size]? = some (.cells (ne (nd s.t j)) 63 (0, 0))) := heap_alloc_last w2 _
    replace S := Lib.hid (S.out.keep (below1 (o := .cells (ne (nd s.t j)) 63)))
    clear yn zt qq i0 i1 tai tbi tbn
    have z := S.out.z
    obtain ⟨y1, _, y3, _⟩ := zor Q0.out
    go_wp2_with fail
    refine (HA1.out _ S.out.l).mono ?_
    rintro e w3 ⟨rfl, g⟩
    have Q1 : Hid ((w3.alloc (.cells (rs ⟨0, (nd s.t j).root, false, zcc⟩) 51)).heap[w3.heap.size]? = some (.cells (rs ⟨0, (nd s.t j).root, false, zcc⟩) 51 (0, 0))) := heap_alloc_last w3 _
    replace S := Lib.hid (S.out.keep (zac g (below1 (o := .cells (rs ⟨0, (nd s.t j).root, false, zcc⟩) 51))))
    replace Q0 := Lib.hid (zab (zac g (below1 (o := .cells (rs ⟨0, (nd s.t j).root, false, zcc⟩) 51))) Q0.out)
    clear g z y1 y3 HA1
    have z := S.out.z
    obtain ⟨y1, _, _, _⟩ := zor Q0.out
    go_wp2_with fail
    refine (HA2.out _ S.out.l).mono ?_
    rintro e w4 ⟨rfl, g⟩
    have Q2 : Hid ((w4.alloc (.cells (rs ⟨0, (nd s.t j).root, false, zcc⟩) 51)).heap[w4.heap.size]? = some (.cells (rs ⟨0, (nd s.t j).root, false, zcc⟩) 51 (0, 0))) := heap_alloc_last w4 _
    replace S := Lib.hid (S.out.keep (zac g (below1 (o := .cells (rs ⟨0, (nd s.t j).root, false, zcc⟩) 51))))
    replace Q0 := Lib.hid (zab (zac g (below1 (o := .cells (rs ⟨0, (nd s.t j).root, false, zcc⟩) 51))) Q0.out)
    replace Q1 := Lib.hid (zab (zac g (below1 (o := .cells (rs ⟨0, (nd s.t j).root, false, zcc⟩) 51))) Q1.out)
    clear g z y1 HA2
    have zt := S.out.zt
    rw [← HSt.out, za7] at zt
    obtain ⟨b2, o2, hpq, hbq, qq⟩ := zda (by have := S.out.l.t; rw [← HSt.out, za7] at this; exact this) (by rw [HNt.out]; have := LJ.out; omega)
    injection hpq with hpq
    injection hpq with e1 e2
    subst e1 e2
    have HBq := Lib.hid hbq
    clear hbq
    have ys := zgh qq (i := 0) (by rw [HNt.out]; have := LJ.out; omega)
    rw [Nat.zero_mul, Nat.add_zero] at ys
    have i0 : (0 : Int) < (nt : Int) := by have := LJ.out; omega
    have i1 : 0 < nt := by have := LJ.out; omega
    clear qq
    have te := zk7 (nd s.t j).root
    obtain ⟨y1, _, _, _⟩ := zor Q0.out
    have y2 := zfc Q1.out
    have y3 := zjg Q1.out
    have y4 := zjg Q2.out
    dsimp only at y2 y3 y4
    obtain ⟨N, hN⟩ : ∃ N, N = (nd s.t 0).slot := ⟨_, rfl⟩
    rw [← hN] at ys K4
    clear hN
    by_cases h0 : N.toNat = 0
    ·
     have t1 : (((N.toNat : Nat) : Int) == 0) = true := by rw [h0]; rfl
     have t2 : (N.toNat == 0) = true := by rw [h0]; rfl
     have t3 : decide (N.toNat = 0) = true := decide_eq_true h0
     clear h0
     have zT := S.out.zT
     go_wp2_with fail
     refine (HFi.out _ S.out.l.t).mono ?_
     rintro e w5 ⟨rfl, g⟩
     replace S := Lib.hid (S.out.keep g)
     replace Q0 := Lib.hid (zab g Q0.out)
     replace Q1 := Lib.hid (zab g Q1.out)
     replace Q2 := Lib.hid (zab g Q2.out)
     clear g zT y1 y2 y3 y4 ys zt
     go_wp2_with fail
     go_ret
     exact ⟨rfl, S.out.g⟩
    ·
     have t1 : (((N.toNat : Nat) : Int) == 0) = false := by rw [beq_eq_false_iff_ne]; omega
     have t2 : (N.toNat == 0) = false := by rw [beq_eq_false_iff_ne]; exact h0
     have t3 : decide (N.toNat = 0) = false := decide_eq_false h0
     obtain ⟨M, hM⟩ : ∃ M, M = N - 1 := ⟨_, rfl⟩
     have hs : M.toNat = N.toNat - 1 := by rw [hM, UInt64.toNat_sub_of_le _ _ (by rw [UInt64.le_iff_toNat_le]; show 1 ≤ _; omega)]; rfl
     have k4 := K4.out (by omega)
     have hk : IntKind.u64.wrap ((N.toNat : Int) - 1) = (M.toNat : Int) := by rw [IntKind.wrap_u64]; have := N.toNat_lt; omega
     rw [← hs] at k4
     have HA3 := Lib.hid (fun W hh => HH.out.ask x s ⟨6, ⟨none, 0, 0⟩, (nd s.t j).root, zr, M⟩ W hh)
     dsimp only at HA3
     rw [k4] at HA3
     rw [show rsOf { zRg with e := 8 } = ⟨8, zr, false, zcc⟩ from rfl] at HA3
     clear hM hs k4 K4 h0
     go_upto_region 11 with fail
     obtain ⟨WR, hWR⟩ : ∃ W : World, W = w4.alloc (.cells (rs ⟨0, (nd s.t j).root, false, zcc⟩) 51) := ⟨_, rfl⟩
     rw [← hWR] at S Q0 Q1 Q2 HBq y1 zt ys ⊢
     clear hWR
     have z := S.out.z
     have lt := S.out.lt
     have lt0 := (Array.getElem?_eq_some_iff.1 Q0.out).1
     have lt1 := HBq.out
     clear y2 y3 y4 te t1 t2 t3 HFi
     go_cut [9] from 80 to 91 (fun t wx => CutR WR ⟨8, zr, false, zcc⟩ t wx)
     case first =>
      have hwB : WR.heap.size ≤ WR.drew.heap.size := Nat.le_refl _
      have P0 := zzo (B := WR.heap.size) z lt
      have P1 := zo0 (B := WR.heap.size) zt lt
      have P2 := zzo (B := WR.heap.size) y1 lt0
      have P3 := zo0 (B := WR.heap.size) ys lt1
      clear z zt y1 ys lt lt0 lt1
      refine zro WR.heap.size [] [11, 12, 13] (by kernel_rfl) ?_
      refine GX.take2 0 rfl rfl rfl (by kernel_rfl) (by kernel_rfl) (by kernel_rfl) rfl hwB ?_
      (first | go_big_quiet_step (fail) | quiet_step (fail)); refine wpQuiet_nil ?_
      refine GX.take2 1 rfl rfl rfl (by kernel_rfl) (by kernel_rfl) (by kernel_rfl) rfl hwB ?_
      (first | go_big_quiet_step (fail) | quiet_step (fail)); refine wpQuiet_nil ?_
      refine GX.take2 2 rfl rfl rfl (by kernel_rfl) (by kernel_rfl) (by kernel_rfl) rfl hwB ?_
      (first | go_big_quiet_step (fail) | quiet_step (fail)); refine wpQuiet_nil ?_
      refine GX.take2 3 rfl rfl rfl (by kernel_rfl) (by kernel_rfl) (by kernel_rfl) rfl hwB ?_
      (first | go_big_quiet_step (fail) | quiet_step (fail)); refine wpQuiet_nil ?_
      refine GX.take2 4 rfl rfl rfl (by kernel_rfl) (by kernel_rfl) (by kernel_rfl) rfl hwB ?_
      (first | go_big_quiet_step (fail) | quiet_step (fail)); refine wpQuiet_nil ?_
      refine GX.take2 5 rfl rfl rfl (by kernel_rfl) (by kernel_rfl) (by kernel_rfl) rfl hwB ?_
      (first | go_big_quiet_step (fail) | quiet_step (fail)); refine wpQuiet_nil ?_
      refine GX.take2 6 rfl rfl rfl (by kernel_rfl) (by kernel_rfl) (by kernel_rfl) rfl hwB ?_
      (first | go_big_quiet_step (fail) | quiet_step (fail)); refine wpQuiet_nil ?_
      refine GX.take2 7 rfl rfl rfl (by kernel_rfl) (by kernel_rfl) (by kernel_rfl) rfl hwB ?_
      (first | go_big_quiet_step (fail) | quiet_step (fail)); refine wpQuiet_nil ?_
      refine GX.take2 8 rfl rfl rfl (by kernel_rfl) (by kernel_rfl) (by kernel_rfl) rfl hwB ?_
      (first | go_big_quiet_step (fail) | quiet_step (fail)); refine wpQuiet_nil ?_
      refine GX.take2 9 rfl rfl rfl (by kernel_rfl) (by kernel_rfl) (by kernel_rfl) rfl hwB ?_
      (first | go_big_quiet_step (fail) | quiet_step (fail)); refine wpQuiet_nil ?_
      refine GX.take2 10 rfl rfl rfl (by kernel_rfl) (by kernel_rfl) (by kernel_rfl) rfl hwB ?_
      (first | go_big_quiet_step (fail) | quiet_step (fail)); refine wpQuiet_nil ?_
      refine GX.branch2 11 12 (by kernel_rfl) ?_ ?_
      ·
       refine zht rfl rfl rfl rfl zb4 #[.agg (sn x), .agg (cl ⟨6, ⟨none, 0, 0⟩, (nd s.t j).root, zr, M⟩)] rfl ?_
       refine (HA3.out _ (S.out.l.keep (zak (Below.refl _ _) 1))).mono ?_
       rintro e u ⟨rfl, g⟩
       refine ⟨_, rfl, g, ?_⟩
       simp only [Act.put, List.setIfInBounds_toArray, List.set_cons_zero, List.set_cons_succ]
       have gu : Below WR.heap.size WR u := zac (zak (Below.refl _ _) 1) g
       clear g
       refine GX.branch1 12 (by kernel_rfl) ?_
       refine ze5 rfl rfl rfl (.pointer (some ⟨u.heap.size, 0, none⟩)) (u.alloc (.cells (rs zrs) 51)) (by go_simp) (zdk below1) ?_
       simp only [Act.put, List.setIfInBounds_toArray, List.set_cons_zero, List.set_cons_succ]
       have hn : (u.alloc (.cells (rs zrs) 51)).heap[u.heap.size]? = some (.cells (rs zrs) 51 (0, 0)) := heap_alloc_last u _
       have ga : Below WR.heap.size WR (u.alloc (.cells (rs zrs) 51)) := zac gu below1
       obtain ⟨W5, hW5⟩ : ∃ W, W = u.alloc (.cells (rs zrs) 51) := ⟨_, rfl⟩
       rw [← hW5] at hn ga ⊢
       clear hW5
       have yw := za0 hn (za1 _)
       refine GX.branch1 13 (by kernel_rfl) ?_
       refine zrq rfl rfl rfl (stA W5 (.pointer (some ⟨u.heap.size, 0, none⟩)) (.agg (rs ⟨8, zr, false, zcc⟩))) (by go_simp) (zd5 (by kernel_rfl) (zap (Below.refl _ _) gu.size)) ?_
       simp only [Act.put]
       have HR : Hid (CutR WR ⟨8, zr, false, zcc⟩ (.pointer (some ⟨u.heap.size, 0, none⟩)) (stA W5 (.pointer (some ⟨u.heap.size, 0, none⟩)) (.agg (rs ⟨8, zr, false, zcc⟩)))) := ⟨_, rfl, by rw [zbx hn (by rw [za1, za1]; decide)]; congr 2; exact yj8 (by rw [za1, za1]), zap ga gu.size⟩
       clear yw
       refine GX.nil (by kernel_rfl) ?_
       clear P0 P1 P2 P3 hwB
       go_wp2_with fail
       go_meet
       exact HR.out
      ·
       refine ze5 rfl rfl rfl (.pointer (some ⟨WR.heap.size, 0, none⟩)) (WR.drew.alloc (.cells (rs zrs) 51)) (by go_simp) (zdk below1) ?_
       simp only [Act.put, List.setIfInBounds_toArray, List.set_cons_zero, List.set_cons_succ]
       have hn : (WR.drew.alloc (.cells (rs zrs) 51)).heap[WR.heap.size]? = some (.cells (rs zrs) 51 (0, 0)) := heap_alloc_last WR.drew _
       have ga : Below WR.heap.size WR (WR.drew.alloc (.cells (rs zrs) 51)) := zac (zak (Below.refl _ _) 1) below1
       obtain ⟨W5, hW5⟩ : ∃ W, W = WR.drew.alloc (.cells (rs zrs) 51) := ⟨_, rfl⟩
       rw [← hW5] at hn ga ⊢
       clear hW5
       refine GX.branch1 11 (by kernel_rfl) ?_
       refine zht rfl rfl rfl rfl zb4 #[.agg (sn x), .agg (cl ⟨6, ⟨none, 0, 0⟩, (nd s.t j).root, zr, M⟩)] rfl ?_
       refine (HA3.out _ (S.out.l.keep ga)).mono ?_
       rintro e u ⟨rfl, g⟩
       refine ⟨_, rfl, g, ?_⟩
       simp only [Act.put, List.setIfInBounds_toArray, List.set_cons_zero, List.set_cons_succ]
       have gd : Below WR.heap.size WR u := zac ga g
       have hn2 := zab g hn
       clear g
       have yw := za0 hn2 (za1 _)
       refine GX.branch1 13 (by kernel_rfl) ?_
       refine zrq rfl rfl rfl (stA u (.pointer (some ⟨WR.heap.size, 0, none⟩)) (.agg (rs ⟨8, zr, false, zcc⟩))) (by go_simp) (zd5 (by kernel_rfl) (zap (Below.refl _ _) (Nat.le_refl _))) ?_
       simp only [Act.put]
       have HR : Hid (CutR WR ⟨8, zr, false, zcc⟩ (.pointer (some ⟨WR.heap.size, 0, none⟩)) (stA u (.pointer (some ⟨WR.heap.size, 0, none⟩)) (.agg (rs ⟨8, zr, false, zcc⟩)))) := ⟨_, rfl, by rw [zbx hn2 (by rw [za1, za1]; decide)]; congr 2; exact yj8 (by rw [za1, za1]), zap gd (Nat.le_refl _)⟩
       clear yw
       refine GX.nil (by kernel_rfl) ?_
       clear P0 P1 P2 P3 hwB
       go_wp2_with fail
       go_meet
       exact HR.out
     case rest =>
      obtain ⟨T, rfl, hT, hb⟩ := hcut
      replace S := Lib.hid (S.out.keep hb)
      replace Q0 := Lib.hid (zab hb Q0.out)
      replace Q1 := Lib.hid (zab hb Q1.out)
      replace Q2 := Lib.hid (zab hb Q2.out)
      have yc := zfc hT
      dsimp only at yc
      clear hb
      go_wp2_with fail
      go_ret
      exact ⟨rfl, S.out.g⟩
theorem snapSlotsL (H : zn1) (HX : zdn) (x : Sn) (s : Sg) (i : Int) (w : World) (h : LaidS w x s) :
  Calls Tryz.prog 7 #[.agg (sn x), .int .i64 i] w fun e w' => e = .returned (.bool true) ∧ Below w.heap.size w w' := by
 exact z13 H HX x s i w h
end
end Go.Proofs.YtkalofboioffiaaGreat
