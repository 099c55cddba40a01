import Derived.Test.YtmihlihlpdkdcaaGreatQ12
import Derived.Test.YtmihlihlpdkdcaaGreatQ13
import Derived.Deep.Cut
import Derived.Deep.CutRange
import Derived.Deep.RegionLaw
namespace Go.Proofs.YtmihlihlpdkdcaaGreat
open Go.RowKit
set_option maxRecDepth 200000
set_option maxHeartbeats 64000000
theorem zy6 (H : EngC) (x : En) (g : Eg) (kind : Int) (pr : Option Addr) (nr cr : Nat) (ra rb : Rt) (sl : UInt64) (l : List UInt8) (w : World) (h : LaidG w x g) (hr : SlE Ebyt w (.slice pr nr cr) l) (hl : l.length = nr) :
  Calls Tryz.prog 4 #[.agg (en x), .agg (cl ⟨kind, ⟨pr, nr, cr⟩, ra, rb, sl⟩)] w fun e w' => e = .returned (.bool true) ∧ Below w.heap.size w w' := by
 obtain ⟨W0, hW0⟩ : ∃ W0, W0 = ((w.alloc (.cells (en x) 39)).alloc (.cells (cl ⟨kind, ⟨pr, nr, cr⟩, ra, rb, sl⟩) 48)) := ⟨_, rfl⟩
 obtain ⟨hB, q0, q1, _⟩ := zd0 w _ _ _ _ W0 hW0
 have A : Hid (Gv w W0 w.heap.size x g) := ⟨q0, h.keep hB, hB⟩
 have M : Hid (W0.heap[w.heap.size + 1]? = some (.cells (cl ⟨kind, ⟨pr, nr, cr⟩, ra, rb, sl⟩) 48 (0, 0))) := q1
 have HW := Lib.hid hW0
 have KR := Lib.hid (zac hB hr)
 have LR := Lib.hid hl
 have HAw := Lib.hid (fun W => zfb H W)
 obtain ⟨f, hf⟩ : ∃ f, f = fewG g := ⟨_, rfl⟩
 have HFw := Lib.hid (fun W (hh : LaidG W x g) => ybc x g W hh)
 rw [← hf] at HFw
 have HFt : Hid (f = true → zbz g ∧ g.j.length ≤ 24) := fun e => zev (hf.symm.trans e)
 have HH := Lib.hid H
 clear hW0 hB q0 q1 h hf H hr hl
 go_enter Tryz.func4, Tryz.ntmps4
 go_upto_region 1 with fail
 rw [← HW.out]
 go_wp2_with fail
 refine (HAw.out _).mono ?_
 rintro e w1 ⟨rfl, g⟩
 replace A := Lib.hid (A.out.keep g)
 replace M := Lib.hid (zab g M.out)
 replace KR := Lib.hid (zac g KR.out)
 clear g
 have z := A.out.z
 go_wp2_with fail
 refine (HFw.out _ A.out.l).mono ?_
 rintro e w2 ⟨rfl, g⟩
 replace A := Lib.hid (A.out.keep g)
 replace M := Lib.hid (zab g M.out)
 replace KR := Lib.hid (zac g KR.out)
 clear g z
 cases f
 ·
  go_wp2_with fail
  go_ret
  exact ⟨rfl, A.out.g⟩
 ·
  obtain ⟨sm, sj⟩ := HFt.out rfl
  obtain ⟨m, hm⟩ : ∃ m, m = mayG g := ⟨_, rfl⟩
  have HMy := Lib.hid (fun W hh => HH.out.may x g W hh sm)
  rw [← hm] at HMy
  have HMt : Hid (m = true → MayS' g) := fun e => zdu.1 (hm.symm.trans e)
  have SM := Lib.hid sm
  have SJ := Lib.hid sj
  clear hm sm sj HFt HFw HAw
  have z := A.out.z
  go_wp2_with fail
  refine (HMy.out _ A.out.l).mono ?_
  rintro e w3 ⟨rfl, g⟩
  replace A := Lib.hid (A.out.keep g)
  replace M := Lib.hid (zab g M.out)
  replace KR := Lib.hid (zac g KR.out)
  clear g z
  cases m
  ·
   go_wp2_with fail
   go_ret
   exact ⟨rfl, A.out.g⟩
  ·
   have MS := Lib.hid (HMt.out rfl)
   clear HMt HMy
   have zr := zkn M.out
   dsimp only at zr
   rw [zat] at zr
   by_cases t200 : 200 < nr
   ·
    have t200i : decide (200 < (nr : Int)) = true := decide_eq_true (by omega)
    have t200i' : decide (200 < nr) = true := decide_eq_true (by omega)
    clear t200
    go_wp2_with fail
    go_ret
    exact ⟨rfl, A.out.g⟩
   ·
    have t200i : decide (200 < (nr : Int)) = false := decide_eq_false (by omega)
    have t200i' : decide (200 < nr) = false := decide_eq_false (by omega)
    have HDo := Lib.hid (fun W hh hs => HH.out.call x g ⟨kind, ⟨pr, nr, cr⟩, ra, rb, sl⟩ l W hh SM.out hs (by have := LR.out; omega))
    dsimp only at HDo
    obtain ⟨cmd, hcmd⟩ : ∃ c, c = zcd kind l := ⟨_, rfl⟩
    rw [← hcmd] at HDo
    have HCmd := Lib.hid hcmd
    have SD := Lib.hid (zn6 MS.out SJ.out cmd)
    have MD := Lib.hid (do_G MS.out cmd)
    clear t200 hcmd
    have z := A.out.z
    have zm := zaf M.out (zrj _)
    go_wp2_with fail
    refine (HDo.out _ A.out.l (by rw [zat]; exact KR.out)).mono ?_
    rintro e w4 ⟨x2, rfl, h2, g2⟩
    clear z zm zr
    have F := Lib.hid (zi6 (zad A.out.g g2) h2)
    replace A := Lib.hid (A.out.keep (zad g2 (below1 (o := .cells (en x2) 39))))
    replace M := Lib.hid (zab (zad g2 (below1 (o := .cells (en x2) 39))) M.out)
    replace KR := Lib.hid (zac (zad g2 (below1 (o := .cells (en x2) 39))) KR.out)
    clear g2 h2
    have HMf := Lib.hid (fun y W hh => HH.out.may y (doG g cmd) W hh SD.out)
    rw [zdu.2 MD.out] at HMf
    have HSf := Lib.hid (fun y W hh hh2 => HH.out.same y x (doG g cmd) g W hh hh2 SD.out SM.out)
    obtain ⟨E, hE⟩ : ∃ E, E = zfs g cmd := ⟨_, rfl⟩
    rw [← hE]
    have HEr : Hid (E ≠ 0 → doG g cmd = g) := fun e => yer (by rw [← hE]; exact e)
    have HOut : Hid (¬ (0 ≤ kind ∧ kind ≤ 3) → E = 1) := fun e => by rw [hE, HCmd.out, ypl e]; rfl
    clear hE
    have zf := F.out.z
    go_wp2_with fail
    refine (HMf.out _ _ F.out.l).mono ?_
    rintro e w5 ⟨rfl, g⟩
    replace A := Lib.hid (A.out.keep g)
    replace M := Lib.hid (zab g M.out)
    replace KR := Lib.hid (zac g KR.out)
    replace F := Lib.hid (F.out.keep g)
    clear g zf
    have zf := F.out.z
    have z := A.out.z
    have zk := zdf M.out
    dsimp only at zk
    by_cases hk : 0 ≤ kind ∧ kind ≤ 3
    ·
     have k1 : decide (0 ≤ kind) = true := decide_eq_true hk.1
     have k2 : decide (kind ≤ 3) = true := decide_eq_true hk.2
     clear hk
     by_cases h0 : E = 0
     ·
      subst h0
      go_wp2_with fail
      go_ret
      exact ⟨rfl, A.out.g⟩
     ·
      have e1 := HEr.out h0
      rw [decide_eq_true e1] at HSf
      clear e1
      have t0 : ((E : Int) == 0) = false := by rw [beq_eq_false_iff_ne]; omega
      have t0' : (E == 0) = false := by rw [beq_eq_false_iff_ne]; exact h0
      have t0'' : decide (E = 0) = false := decide_eq_false h0
      go_wp2_with fail
      refine (HSf.out _ _ F.out.l A.out.l).mono ?_
      rintro e w6 ⟨rfl, g⟩
      replace A := Lib.hid (A.out.keep g)
      replace M := Lib.hid (zab g M.out)
      replace KR := Lib.hid (zac g KR.out)
      replace F := Lib.hid (F.out.keep g)
      clear g zf z zk h0
      have zk := zdf M.out
      dsimp only at zk
      go_wp2_with fail
      go_ret
      exact ⟨rfl, A.out.g⟩
    ·
     obtain rfl : E = 1 := HOut.out hk
     have h0 : (1 : Nat) ≠ 0 := by decide
     by_cases k1 : 0 ≤ kind
     ·
      have k1i : decide (0 ≤ kind) = true := decide_eq_true k1
      have k2 : decide (kind ≤ 3) = false := decide_eq_false (by omega)
      clear hk k1
      have e1 := HEr.out h0
      rw [decide_eq_true e1] at HSf
      clear e1
      go_wp2_with fail
      refine (HSf.out _ _ F.out.l A.out.l).mono ?_
      rintro e w6 ⟨rfl, g⟩
      replace A := Lib.hid (A.out.keep g)
      replace M := Lib.hid (zab g M.out)
      replace KR := Lib.hid (zac g KR.out)
      replace F := Lib.hid (F.out.keep g)
      clear g zf z zk h0
      have zk := zdf M.out
      dsimp only at zk
      go_wp2_with fail
      go_ret
      exact ⟨rfl, A.out.g⟩
     ·
      have k1i : decide (0 ≤ kind) = false := decide_eq_false k1
      clear hk k1
      have e1 := HEr.out h0
      rw [decide_eq_true e1] at HSf
      clear e1
      go_wp2_with fail
      refine (HSf.out _ _ F.out.l A.out.l).mono ?_
      rintro e w6 ⟨rfl, g⟩
      replace A := Lib.hid (A.out.keep g)
      replace M := Lib.hid (zab g M.out)
      replace KR := Lib.hid (zac g KR.out)
      replace F := Lib.hid (F.out.keep g)
      clear g zf z zk h0
      have zk := zdf M.out
      dsimp only at zk
      go_wp2_with fail
      go_ret
      exact ⟨rfl, A.out.g⟩
theorem engineStaysL (H : EngC) (x : En) (g : Eg) (c : Cl) (l : List UInt8) (w : World) (h : LaidG w x g) (hr : SlE Ebyt w (sv c.raw) l) :
  Calls Tryz.prog 4 #[.agg (en x), .agg (cl c)] w fun e w' => e = .returned (.bool true) ∧ Below w.heap.size w w' := by
 obtain ⟨kind, ⟨pr, nr, cr⟩, ra, rb, sl⟩ := c
 have hl := zck hr
 dsimp only at hl hr
 rw [zat] at hr
 exact zy6 H x g kind pr nr cr ra rb sl l w h hr hl
end Go.Proofs.YtmihlihlpdkdcaaGreat
