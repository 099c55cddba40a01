import Derived.Test.YtmihlihlpdkdcaaGreatQ12
import Derived.Test.YtmihlihlpdkdcaaGreatQ13
import Derived.Deep.Cut
import Derived.Deep.CutRange
import Derived.Deep.RegionLaw
namespace Go.Proofs.YtmihlihlpdkdcaaGreat
open Go.RowKit
set_option maxRecDepth 200000
set_option maxHeartbeats 64000000
theorem z16 (H : EngC) (x : En) (g : Eg) (a : Aa) (w : World) (h : LaidG w x g) :
  Calls Tryz.prog 7 #[.agg (en x), .agg (aa a)] w fun e w' => e = .returned (.bool true) ∧ Below w.heap.size w w' := by
 obtain ⟨W0, hW0⟩ : ∃ W0, W0 = ((w.alloc (.cells (en x) 39)).alloc (.cells (aa a) 62)) := ⟨_, rfl⟩
 obtain ⟨hB, q0, q1, _⟩ := zd0 w _ _ _ _ W0 hW0
 have A : Hid (Gv w W0 w.heap.size x g) := ⟨q0, h.keep hB, hB⟩
 have M : Hid (W0.heap[w.heap.size + 1]? = some (.cells (aa a) 62 (0, 0))) := q1
 have HW := Lib.hid hW0
 have HAw := Lib.hid (fun W => zfb H W)
 obtain ⟨f, hf⟩ : ∃ f, f = fewG g := ⟨_, rfl⟩
 have HFw := Lib.hid (fun W (hh : LaidG W x g) => ybc x g W hh)
 rw [← hf] at HFw
 have HFt : Hid (f = true → zbz g ∧ g.j.length ≤ 24) := fun e => zev (hf.symm.trans e)
 have HH := Lib.hid H
 clear hW0 hB q0 q1 h hf H
 go_enter Tryz.func7, Tryz.ntmps7
 go_upto_region 1 with fail
 rw [← HW.out]
 go_wp2_with fail
 refine (HAw.out _).mono ?_
 rintro e w1 ⟨rfl, g⟩
 replace A := Lib.hid (A.out.keep g)
 replace M := Lib.hid (zab g M.out)
 clear g
 have z := A.out.z
 go_wp2_with fail
 refine (HFw.out _ A.out.l).mono ?_
 rintro e w2 ⟨rfl, g⟩
 replace A := Lib.hid (A.out.keep g)
 replace M := Lib.hid (zab g M.out)
 clear g z
 cases f
 ·
  go_wp2_with fail
  go_ret
  exact ⟨rfl, A.out.g⟩
 ·
  obtain ⟨sm, sj⟩ := HFt.out rfl
  obtain ⟨m, hm⟩ : ∃ m, m = mayG g := ⟨_, rfl⟩
  have HMy := Lib.hid (fun W hh => HH.out.may x g W hh sm)
  rw [← hm] at HMy
  have HMt : Hid (m = true → MayS' g) := fun e => zdu.1 (hm.symm.trans e)
  have SM := Lib.hid sm
  have SJ := Lib.hid sj
  clear hm sm sj HFt HFw HAw
  have z := A.out.z
  go_wp2_with fail
  refine (HMy.out _ A.out.l).mono ?_
  rintro e w3 ⟨rfl, g⟩
  replace A := Lib.hid (A.out.keep g)
  replace M := Lib.hid (zab g M.out)
  clear g z
  cases m
  ·
   go_wp2_with fail
   go_ret
   exact ⟨rfl, A.out.g⟩
  ·
   have MS := Lib.hid (HMt.out rfl)
   clear HMt HMy
   obtain ⟨⟨pl, nl, cl⟩, hsl⟩ : ∃ s : SlV, s = x.late := ⟨_, rfl⟩
   have HSl := Lib.hid hsl
   have hnl := zck A.out.l.late
   rw [← hsl] at hnl
   have HNl : Hid (g.late.length = nl) := hnl
   clear hsl hnl
   have zl := A.out.zl
   rw [← HSl.out, zat] at zl
   have zn := A.out.zn
   have zs := zih M.out
   by_cases tl : 0 < nl
   ·
    have tli : decide (0 < (nl : Int)) = true := decide_eq_true (by omega)
    have tli' : decide (0 < nl) = true := decide_eq_true (by omega)
    clear tl
    go_wp2_with fail
    go_ret
    exact ⟨rfl, A.out.g⟩
   ·
    have tli : decide (0 < (nl : Int)) = false := decide_eq_false (by omega)
    have tli' : decide (0 < nl) = false := decide_eq_false (by omega)
    have hl0 : nl = 0 := by omega
    have HL0 : Hid (g.late = []) := List.length_eq_zero_iff.1 (by rw [HNl.out, hl0])
    clear hl0 tl
    by_cases tn : 1099511627776 ≤ g.now.toNat
    ·
     have tni : decide (1099511627776 ≤ (g.now.toNat : Int)) = true := decide_eq_true (by omega)
     have tni' : decide (1099511627776 ≤ g.now.toNat) = true := decide_eq_true (by omega)
     clear tn
     go_wp2_with fail
     go_ret
     exact ⟨rfl, A.out.g⟩
    ·
     have tni : decide (1099511627776 ≤ (g.now.toNat : Int)) = false := decide_eq_false (by omega)
     have tni' : decide (1099511627776 ≤ g.now.toNat) = false := decide_eq_false (by omega)
     by_cases ts : a.slot = g.now
     ·
      have HBl := Lib.hid (fun W hh => HH.out.att x g a W hh SM.out)
      have MG := Lib.hid (yki MS.out a)
      have SG := Lib.hid (zz1 MS.out (by have := SJ.out; omega) a)
      obtain ⟨E, hE⟩ : ∃ E, E = zft g a := ⟨_, rfl⟩
      rw [← hE] at HBl
      have HEr : Hid (E ≠ 0 → attG g a = g) := fun e => yox (by rw [← hE]; exact e)
      have HLw : Hid (E = 0 → _) := fun e => z38 MS.out HL0.out (by omega) ts (hE.symm.trans e)
      clear hE
      obtain ⟨G, hG⟩ : ∃ G, G = attG g a := ⟨_, rfl⟩
      rw [← hG] at HBl MG SG HEr HLw
      clear hG
      have t1 : ((a.slot.toNat : Int) != (g.now.toNat : Int)) = false := by rw [ts]; simp
      have t2 : (a.slot.toNat != g.now.toNat) = false := by rw [ts]; simp
      rw [ts] at zs
      clear ts tn
      have HSf := Lib.hid (fun y W hh hh2 => HH.out.same y x G g W hh hh2 SG.out SM.out)
      have z := A.out.z
      have zm := zaf M.out (zfg _)
      go_wp2_with fail
      refine (HBl.out _ A.out.l).mono ?_
      rintro e w4 ⟨x2, rfl, h2, g2⟩
      clear z zm zl zn zs t1 t2 tni tni' tli tli' HBl
      have F := Lib.hid (zi6 (zad A.out.g g2) h2)
      replace A := Lib.hid (A.out.keep (zad g2 (below1 (o := .cells (en x2) 39))))
      replace M := Lib.hid (zab (zad g2 (below1 (o := .cells (en x2) 39))) M.out)
      clear g2 h2
      by_cases h0 : E = 0
      ·
       subst h0
       obtain ⟨k1, k2, k3, k4, k5⟩ := HLw.out rfl
       have HK2 := Lib.hid k2
       obtain ⟨k1, k2, k3, k4, k5⟩ := HLw.out rfl
       have HK2 := Lib.hid k2
       have hj : G.j.length ≤ 24 := by have h9 : ({ G with late := [] } : Eg).j = g.j := congrArg Eg.j k2; have h9 : G.j = g.j := h9; rw [h9]; exact SJ.out
       have HT1 := Lib.hid (fun y W hh => HH.out.tick y G W hh SG.out)
       rw [k3] at HT1
       have HT2 := Lib.hid (fun W hh => HH.out.tick x g W hh SM.out)
       rw [k4] at HT2
       have SU := Lib.hid (zvv MS.out SJ.out)
       have MU := Lib.hid (yn8 MS.out)
       have ST := Lib.hid (zvv MG.out hj)
       have HJU : Hid ((zd2 g).j.length ≤ 200) := by have := z7g MS.out .tick; have h9 : (doG g .tick).j = (zd2 g).j := rfl; rw [h9] at this; have := SJ.out; show (zd2 g).j.length ≤ _; omega
       obtain ⟨U, hU⟩ : ∃ U, U = zd2 g := ⟨_, rfl⟩
       rw [← hU] at HT2 SU MU HJU k5
       obtain ⟨Tk, hTk⟩ : ∃ T, T = zd2 G := ⟨_, rfl⟩
       rw [← hTk] at HT1 ST k5
       have HAt := Lib.hid (fun y W hh => HH.out.att y U a W hh SU.out)
       have SV := Lib.hid (zz1 MU.out HJU.out a)
       obtain ⟨E6, hE6⟩ : ∃ E, E = zft U a := ⟨_, rfl⟩
       rw [← hE6] at HAt k5
       obtain ⟨V6, hV6⟩ : ∃ V, V = attG U a := ⟨_, rfl⟩
       rw [← hV6] at HAt k5 SV
       have HK5 := Lib.hid k5
       have HS1 := Lib.hid (fun y W hh hh2 => HH.out.same y x g g W hh hh2 SM.out SM.out)
       rw [decide_eq_true rfl] at HS1
       have HS2 := Lib.hid (fun y y2 W hh hh2 => HH.out.same y y2 Tk Tk W hh hh2 ST.out ST.out)
       rw [decide_eq_true rfl] at HS2
       have HK1 := Lib.hid k1
       clear k1 k2 k3 k4 k5 hj hU hTk hE6 hV6 HSf HEr HLw HH MS MG MU HJU
       have zf := F.out.z
       go_upto_region 10 with fail
       have hz20 : (w4.alloc (.cells (en x2) 39)).heap.size = w4.heap.size + 1 := by simp
       generalize (w4.alloc (.cells (en x2) 39)) = w20 at *
       obtain ⟨W9, hW9⟩ : ∃ W, W = w20.alloc (.cells (en { x2 with late := ⟨none, 0, 0⟩ }) 39) := ⟨_, rfl⟩
       rw [← hW9]
       have g9 : Below w20.heap.size w20 W9 := by rw [hW9]; exact below1
       have hb9 : W9.heap[w20.heap.size]? = some (.cells (en { x2 with late := ⟨none, 0, 0⟩ }) 39 (0, 0)) := by rw [hW9]; exact heap_alloc_last w20 _
       have hl9 := F.out.l.keep g9
       have F9 : Hid (Gv w W9 w20.heap.size { x2 with late := ⟨none, 0, 0⟩ } g) := ⟨hb9, by
        have e := HK2.out
        rw [← e]
        exact ⟨hl9.t, hl9.bal, hl9.v, hl9.w, zbt _ _ _ _, hl9.k, hl9.j, hl9.out, hl9.fin, hl9.now⟩, zad F.out.g g9⟩
       replace A := Lib.hid (A.out.keep g9)
       replace M := Lib.hid (zab g9 M.out)
       replace F := Lib.hid (F.out.keep g9)
       rw [hz20] at F9
       obtain ⟨y9, hy9⟩ : ∃ y, y = { x2 with late := ⟨none, 0, 0⟩ } := ⟨_, rfl⟩
       rw [← hy9] at F9
       clear hW9 g9 hb9 hl9 zf hz20 hy9
       obtain ⟨w21, rfl⟩ : ∃ W, W = W9 := ⟨_, rfl⟩
       have zf := F.out.z
       go_wp2_with fail
       refine (HT1.out _ _ F.out.l).mono ?_
       rintro e w22 ⟨x4, rfl, h4, g4⟩
       clear zf
       have F4 := Lib.hid (zi6 (zad A.out.g g4) h4)
       replace A := Lib.hid (A.out.keep (zad g4 (below1 (o := .cells (en x4) 39))))
       replace M := Lib.hid (zab (zad g4 (below1 (o := .cells (en x4) 39))) M.out)
       replace F := Lib.hid (F.out.keep (zad g4 (below1 (o := .cells (en x4) 39))))
       replace F9 := Lib.hid (F9.out.keep (zad g4 (below1 (o := .cells (en x4) 39))))
       clear g4 h4
       have z := A.out.z
       go_wp2_with fail
       refine (HT2.out _ A.out.l).mono ?_
       rintro e w23 ⟨x5, rfl, h5, g5⟩
       clear z
       have F5 := Lib.hid (zi6 (zad A.out.g g5) h5)
       replace A := Lib.hid (A.out.keep (zad g5 (below1 (o := .cells (en x5) 39))))
       replace M := Lib.hid (zab (zad g5 (below1 (o := .cells (en x5) 39))) M.out)
       replace F := Lib.hid (F.out.keep (zad g5 (below1 (o := .cells (en x5) 39))))
       replace F9 := Lib.hid (F9.out.keep (zad g5 (below1 (o := .cells (en x5) 39))))
       replace F4 := Lib.hid (F4.out.keep (zad g5 (below1 (o := .cells (en x5) 39))))
       clear g5 h5
       have z5 := F5.out.z
       have zm := zaf M.out (zfg _)
       go_wp2_with fail
       refine (HAt.out _ _ F5.out.l).mono ?_
       rintro e w24 ⟨x6, rfl, h6, g6⟩
       clear z5 zm
       replace A := Lib.hid (A.out.keep g6)
       replace M := Lib.hid (zab g6 M.out)
       replace F := Lib.hid (F.out.keep g6)
       replace F9 := Lib.hid (F9.out.keep g6)
       replace F4 := Lib.hid (F4.out.keep g6)
       replace F5 := Lib.hid (F5.out.keep g6)
       clear g6
       have H6 := Lib.hid h6
       clear h6
       obtain ⟨⟨pf, nf, cf⟩, hsf⟩ : ∃ s : SlV, s = x2.late := ⟨_, rfl⟩
       have HSf := Lib.hid hsf
       have hnf := zck F.out.l.late
       rw [← hsf] at hnf
       have HNf : Hid (G.late.length = nf) := hnf
       clear hsf hnf
       have hnf := HNf.out
       rw [HK1.out] at hnf
       have hnf1 : nf = 1 := hnf.symm
       subst hnf1
       clear hnf
       by_cases h6 : E6 = 0
       ·
        subst h6
        have e5 := HK5.out
        rw [if_pos rfl] at e5
        rw [← e5] at H6
        clear e5
        go_upto_region 15 with fail
        have F6 : Hid (Gv w (w24.alloc (.cells (en x6) 39)) w24.heap.size x6 Tk) := ⟨heap_alloc_last w24 _, H6.out.keep below1, zad A.out.g below1⟩
        replace A := Lib.hid (A.out.keep (below1 (w := w24) (o := .cells (en x6) 39)))
        replace M := Lib.hid (zab (below1 (w := w24) (o := .cells (en x6) 39)) M.out)
        replace F := Lib.hid (F.out.keep (below1 (w := w24) (o := .cells (en x6) 39)))
        replace F9 := Lib.hid (F9.out.keep (below1 (w := w24) (o := .cells (en x6) 39)))
        replace F4 := Lib.hid (F4.out.keep (below1 (w := w24) (o := .cells (en x6) 39)))
        replace F5 := Lib.hid (F5.out.keep (below1 (w := w24) (o := .cells (en x6) 39)))
        generalize (w24.alloc (.cells (en x6) 39)) = w25 at *
        obtain ⟨T6, hT6⟩ : ∃ T, T = w24.heap.size := ⟨_, rfl⟩
        rw [← hT6] at F6 ⊢
        clear hT6
        have zf := F.out.zl
        rw [← HSf.out, zat] at zf
        have z9 := F9.out.z
        have z := A.out.z
        go_wp2_with fail
        refine (HS1.out _ _ F9.out.l A.out.l).mono ?_
        rintro e w25 ⟨rfl, g⟩
        replace A := Lib.hid (A.out.keep g)
        replace M := Lib.hid (zab g M.out)
        replace F := Lib.hid (F.out.keep g)
        replace F9 := Lib.hid (F9.out.keep g)
        replace F4 := Lib.hid (F4.out.keep g)
        replace F5 := Lib.hid (F5.out.keep g)
        replace F6 := Lib.hid (F6.out.keep g)
        clear g zf z9 z
        have z4 := F4.out.z
        have z6 := F6.out.z
        go_wp2_with fail
        refine (HS2.out _ _ _ F4.out.l F6.out.l).mono ?_
        rintro e w26 ⟨rfl, g⟩
        replace A := Lib.hid (A.out.keep g)
        replace M := Lib.hid (zab g M.out)
        replace F := Lib.hid (F.out.keep g)
        replace F9 := Lib.hid (F9.out.keep g)
        replace F4 := Lib.hid (F4.out.keep g)
        replace F5 := Lib.hid (F5.out.keep g)
        replace F6 := Lib.hid (F6.out.keep g)
        clear g z4 z6
        go_wp2_with fail
        go_ret
        exact ⟨rfl, A.out.g⟩
       ·
        have e5 := HK5.out
        rw [if_neg h6] at e5
        have H5 := Lib.hid F5.out.l
        rw [← e5] at H5
        clear e5
        have t0 : ((E6 : Int) == 0) = false := by rw [beq_eq_false_iff_ne]; omega
        have t0' : (E6 == 0) = false := by rw [beq_eq_false_iff_ne]; exact h6
        have t0'' : decide (E6 = 0) = false := decide_eq_false h6
        have t0n : ((E6 : Int) != 0) = true := by rw [bne_iff_ne]; omega
        have t0n' : (E6 != 0) = true := by rw [bne_iff_ne]; exact h6
        have z5 := (F5.out.keep (below1 (o := .cells (en x6) 39))).z
        go_upto_region 15 with fail
        clear z5
        have F6 : Hid (Gv w (w24.alloc (.cells (en x5) 39)) w24.heap.size x5 Tk) := ⟨heap_alloc_last w24 _, H5.out.keep below1, zad A.out.g below1⟩
        replace A := Lib.hid (A.out.keep (below1 (w := w24) (o := .cells (en x5) 39)))
        replace M := Lib.hid (zab (below1 (w := w24) (o := .cells (en x5) 39)) M.out)
        replace F := Lib.hid (F.out.keep (below1 (w := w24) (o := .cells (en x5) 39)))
        replace F9 := Lib.hid (F9.out.keep (below1 (w := w24) (o := .cells (en x5) 39)))
        replace F4 := Lib.hid (F4.out.keep (below1 (w := w24) (o := .cells (en x5) 39)))
        replace F5 := Lib.hid (F5.out.keep (below1 (w := w24) (o := .cells (en x5) 39)))
        generalize (w24.alloc (.cells (en x5) 39)) = w25 at *
        obtain ⟨T6, hT6⟩ : ∃ T, T = w24.heap.size := ⟨_, rfl⟩
        rw [← hT6] at F6 ⊢
        clear hT6
        have zf := F.out.zl
        rw [← HSf.out, zat] at zf
        have z9 := F9.out.z
        have z := A.out.z
        go_wp2_with fail
        refine (HS1.out _ _ F9.out.l A.out.l).mono ?_
        rintro e w25 ⟨rfl, g⟩
        replace A := Lib.hid (A.out.keep g)
        replace M := Lib.hid (zab g M.out)
        replace F := Lib.hid (F.out.keep g)
        replace F9 := Lib.hid (F9.out.keep g)
        replace F4 := Lib.hid (F4.out.keep g)
        replace F5 := Lib.hid (F5.out.keep g)
        replace F6 := Lib.hid (F6.out.keep g)
        clear g zf z9 z
        have z4 := F4.out.z
        have z6 := F6.out.z
        go_wp2_with fail
        refine (HS2.out _ _ _ F4.out.l F6.out.l).mono ?_
        rintro e w26 ⟨rfl, g⟩
        replace A := Lib.hid (A.out.keep g)
        replace M := Lib.hid (zab g M.out)
        replace F := Lib.hid (F.out.keep g)
        replace F9 := Lib.hid (F9.out.keep g)
        replace F4 := Lib.hid (F4.out.keep g)
        replace F5 := Lib.hid (F5.out.keep g)
        replace F6 := Lib.hid (F6.out.keep g)
        clear g z4 z6
        go_wp2_with fail
        go_ret
        exact ⟨rfl, A.out.g⟩
      ·
       have e1 := HEr.out h0
       rw [decide_eq_true e1] at HSf
       have t0 : ((E : Int) == 0) = false := by rw [beq_eq_false_iff_ne]; omega
       have t0' : (E == 0) = false := by rw [beq_eq_false_iff_ne]; exact h0
       have t0'' : decide (E = 0) = false := decide_eq_false h0
       have t0n : ((E : Int) != 0) = true := by rw [bne_iff_ne]; omega
       have t0n' : (E != 0) = true := by rw [bne_iff_ne]; exact h0
       clear e1
       have z := A.out.z
       have zf := F.out.z
       go_wp2_with fail
       refine (HSf.out _ _ F.out.l A.out.l).mono ?_
       rintro e w5 ⟨rfl, g⟩
       replace A := Lib.hid (A.out.keep g)
       replace M := Lib.hid (zab g M.out)
       replace F := Lib.hid (F.out.keep g)
       clear g z zf
       go_wp2_with fail
       go_ret
       exact ⟨rfl, A.out.g⟩
     ·
      have ts1 : (a.slot.toNat : Int) ≠ (g.now.toNat : Int) := fun e => ts (UInt64.toNat_inj.1 (by omega))
      have t1 : ((a.slot.toNat : Int) != (g.now.toNat : Int)) = true := by rw [bne_iff_ne]; exact ts1
      have t2 : (a.slot.toNat != g.now.toNat) = true := by rw [bne_iff_ne]; omega
      clear ts ts1 tn
      go_wp2_with fail
      go_ret
      exact ⟨rfl, A.out.g⟩
theorem engineLateL (H : EngC) (x : En) (g : Eg) (a : Aa) (w : World) (h : LaidG w x g) :
  Calls Tryz.prog 7 #[.agg (en x), .agg (aa a)] w fun e w' => e = .returned (.bool true) ∧ Below w.heap.size w w' := by
 exact z16 H x g a w h
end Go.Proofs.YtmihlihlpdkdcaaGreat
