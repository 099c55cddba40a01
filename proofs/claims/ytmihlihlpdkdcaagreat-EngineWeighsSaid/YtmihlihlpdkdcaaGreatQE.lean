import Derived.Test.YtmihlihlpdkdcaaGreatQ12
import Derived.Test.YtmihlihlpdkdcaaGreatQ13
import Derived.Deep.Cut
import Derived.Deep.CutRange
import Derived.Deep.RegionLaw
import Derived.Test.YtmihlihlpdkdcaaGreatQ31
import Derived.Test.YtmihlihlpdkdcaaGreatQ15
namespace Go.Proofs.YtmihlihlpdkdcaaGreat
open Go.RowKit
set_option maxRecDepth 200000
set_option maxHeartbeats 64000000
theorem zur (H : EngC) (HX : zrp) (x : En) (g : Eg) (kind : Int) (pr : Option Addr) (nr cr : Nat) (ra rb : Rt) (sl : UInt64) (l : List UInt8) (w : World) (h : LaidG w x g) (hr : SlE Ebyt w (.slice pr nr cr) l) (hl : l.length = nr) :
  Calls Tryz.prog 8 #[.agg (en x), .agg (cl ⟨kind, ⟨pr, nr, cr⟩, ra, rb, sl⟩)] w fun e w' => e = .returned (.bool true) ∧ Below w.heap.size w w' := by
 obtain ⟨W0, hW0⟩ : ∃ W0, W0 = ((w.alloc (.cells (en x) 39)).alloc (.cells (cl ⟨kind, ⟨pr, nr, cr⟩, ra, rb, sl⟩) 48)) := ⟨_, rfl⟩
 obtain ⟨hB, q0, q1, _⟩ := zd0 w _ _ _ _ W0 hW0
 have A : Hid (Gv w W0 w.heap.size x g) := ⟨q0, h.keep hB, hB⟩
 have M : Hid (W0.heap[w.heap.size + 1]? = some (.cells (cl ⟨kind, ⟨pr, nr, cr⟩, ra, rb, sl⟩) 48 (0, 0))) := q1
 have HW := Lib.hid hW0
 have KR := Lib.hid (zac hB hr)
 have LR := Lib.hid hl
 have HAw := Lib.hid (fun W => zfb H W)
 obtain ⟨f, hf⟩ : ∃ f, f = fewG g := ⟨_, rfl⟩
 have HFw := Lib.hid (fun W (hh : LaidG W x g) => ybc x g W hh)
 rw [← hf] at HFw
 have HFt : Hid (f = true → zbz g ∧ g.j.length ≤ 24) := fun e => zev (hf.symm.trans e)
 have HH := Lib.hid H
 clear hW0 hB q0 q1 h hf H hr hl
 go_enter Tryz.func8, Tryz.ntmps8
 go_upto_region 1 with fail
 rw [← HW.out]
 go_wp2_with fail
 refine (HAw.out _).mono ?_
 rintro e w1 ⟨rfl, g⟩
 replace A := Lib.hid (A.out.keep g)
 replace M := Lib.hid (zab g M.out)
 replace KR := Lib.hid (zac g KR.out)
 clear g
 have z := A.out.z
 go_wp2_with fail
 refine (HFw.out _ A.out.l).mono ?_
 rintro e w2 ⟨rfl, g⟩
 replace A := Lib.hid (A.out.keep g)
 replace M := Lib.hid (zab g M.out)
 replace KR := Lib.hid (zac g KR.out)
 clear g z
 cases f
 ·
  go_wp2_with fail
  go_ret
  exact ⟨rfl, A.out.g⟩
 ·
  obtain ⟨sm, sj⟩ := HFt.out rfl
  obtain ⟨m, hm⟩ : ∃ m, m = mayG g := ⟨_, rfl⟩
  have HMy := Lib.hid (fun W hh => HH.out.may x g W hh sm)
  rw [← hm] at HMy
  have HMt : Hid (m = true → MayS' g) := fun e => zdu.1 (hm.symm.trans e)
  have SM := Lib.hid sm
  have SJ := Lib.hid sj
  clear hm sm sj HFt HFw HAw
  have z := A.out.z
  go_wp2_with fail
  refine (HMy.out _ A.out.l).mono ?_
  rintro e w3 ⟨rfl, g⟩
  replace A := Lib.hid (A.out.keep g)
  replace M := Lib.hid (zab g M.out)
  replace KR := Lib.hid (zac g KR.out)
  clear g z
  cases m
  ·
   go_wp2_with fail
   go_ret
   exact ⟨rfl, A.out.g⟩
  ·
   have MS := Lib.hid (HMt.out rfl)
   clear HMt HMy
   have zr := zkn M.out
   dsimp only at zr
   rw [zat] at zr
   by_cases t200 : 200 < nr
   ·
    have t200i : decide (200 < (nr : Int)) = true := decide_eq_true (by omega)
    have t200i' : decide (200 < nr) = true := decide_eq_true (by omega)
    clear t200
    go_wp2_with fail
    go_ret
    exact ⟨rfl, A.out.g⟩
   ·
    have t200i : decide (200 < (nr : Int)) = false := decide_eq_false (by omega)
    have t200i' : decide (200 < nr) = false := decide_eq_false (by omega)
    have HDo := Lib.hid (fun W hh hs => HH.out.call x g ⟨kind, ⟨pr, nr, cr⟩, ra, rb, sl⟩ l W hh SM.out hs (by have := LR.out; omega))
    dsimp only at HDo
    obtain ⟨cmd, hcmd⟩ : ∃ c, c = zcd kind l := ⟨_, rfl⟩
    rw [← hcmd] at HDo
    have HCmd := Lib.hid hcmd
    have SD := Lib.hid (zn6 MS.out SJ.out cmd)
    have MD := Lib.hid (do_G MS.out cmd)
    clear t200 hcmd
    have z := A.out.z
    have zm := zaf M.out (zrj _)
    go_wp2_with fail
    refine (HDo.out _ A.out.l (by rw [zat]; exact KR.out)).mono ?_
    rintro e w4 ⟨x2, rfl, h2, g2⟩
    clear z zm zr
    have F := Lib.hid (zi6 (zad A.out.g g2) h2)
    replace A := Lib.hid (A.out.keep (zad g2 (below1 (o := .cells (en x2) 39))))
    replace M := Lib.hid (zab (zad g2 (below1 (o := .cells (en x2) 39))) M.out)
    replace KR := Lib.hid (zac (zad g2 (below1 (o := .cells (en x2) 39))) KR.out)
    clear g2 h2
    obtain ⟨G, hG⟩ : ∃ G, G = doG g cmd := ⟨_, rfl⟩
    rw [← hG] at F SD MD
    have HWt := Lib.hid (fun W h1 h2 h3 => HX.weights x2.t.n x2.v.l (sv x2.bal) G.t G.v G.bal W h1 h2 h3)
    rw [MD.out.fit, ← MD.out.w] at HWt
    have HWs := Lib.hid (fun u W h1 h2 => HX.wsame u (sv x2.w) G.w G.w W h1 h2 SD.out.w)
    rw [decide_eq_true rfl] at HWs
    have HLn : Hid (G.w.length = G.t.length) := by show _ = _; rw [MD.out.w, zj8 MD.out.fit]
    clear hG HH
    have zT := F.out.zT
    have zV := F.out.zV
    have zb := F.out.zb
    go_wp2_with fail
    refine (HWt.out _ F.out.l.t F.out.l.v F.out.l.bal).mono ?_
    rintro e w5 ⟨v9, rfl, h9, g9⟩
    replace A := Lib.hid (A.out.keep g9)
    replace M := Lib.hid (zab g9 M.out)
    replace KR := Lib.hid (zac g9 KR.out)
    replace F := Lib.hid (F.out.keep g9)
    have V9 := Lib.hid h9
    clear g9 h9 zT zV zb
    obtain ⟨⟨pw, nw, cw⟩, hsw⟩ : ∃ s : SlV, s = x2.w := ⟨_, rfl⟩
    have HSw := Lib.hid hsw
    have hnw := zck F.out.l.w
    rw [← hsw] at hnw
    have HNw : Hid (G.w.length = nw) := hnw
    clear hsw hnw
    obtain ⟨⟨pt, nt, ct⟩, hst⟩ : ∃ s : SlV, s = x2.t.n := ⟨_, rfl⟩
    have HSt := Lib.hid hst
    have hnt := zck F.out.l.t
    rw [← hst] at hnt
    have HNt : Hid (G.t.length = nt) := hnt
    clear hst hnt
    have hnw := HNw.out
    rw [HLn.out, HNt.out] at hnw
    subst hnw
    have zw := F.out.zw
    rw [← HSw.out, zat] at zw
    rw [← HSw.out, zat] at HWs
    have HW2 : Hid (SlE Enum w5 (.slice pw nt cw) G.w) := by show SlE _ _ _ _; have := F.out.l.w; rw [← HSw.out, zat] at this; exact this
    go_wp2_with fail
    refine (HWs.out _ _ V9.out HW2.out).mono ?_
    rintro e w6 ⟨rfl, g⟩
    replace A := Lib.hid (A.out.keep g)
    replace M := Lib.hid (zab g M.out)
    replace KR := Lib.hid (zac g KR.out)
    replace F := Lib.hid (F.out.keep g)
    replace V9 := Lib.hid (zac g V9.out)
    clear g zw HW2
    have zw := F.out.zw
    rw [← HSw.out, zat] at zw
    have zt := F.out.zt
    rw [← HSt.out, zat] at zt
    go_wp2_with fail
    go_ret
    exact ⟨rfl, A.out.g⟩
theorem engineWeighsL (H : EngC) (HX : zrp) (x : En) (g : Eg) (c : Cl) (l : List UInt8) (w : World) (h : LaidG w x g) (hr : SlE Ebyt w (sv c.raw) l) :
  Calls Tryz.prog 8 #[.agg (en x), .agg (cl c)] w fun e w' => e = .returned (.bool true) ∧ Below w.heap.size w w' := by
 obtain ⟨kind, ⟨pr, nr, cr⟩, ra, rb, sl⟩ := c
 have hl := zck hr
 dsimp only at hl hr
 rw [zat] at hr
 exact zur H HX x g kind pr nr cr ra rb sl l w h hr hl
theorem beside17W : zrp where
 weights := zpu
 wsame := zoo
end Go.Proofs.YtmihlihlpdkdcaaGreat
