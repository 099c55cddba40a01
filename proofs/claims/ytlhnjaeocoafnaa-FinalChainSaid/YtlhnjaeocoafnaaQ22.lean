/-
  The document's: may what is told be? walked. (written by wip/gen/ref16.py)
  A row of checkpoints as an answer. (written by wip/gen/ref16.py)
  The document's: Finals, walked. (written by wip/gen/ref16.py)
-/
import Derived.Test.YtlhnjaeocoafnaaQ12
import Derived.Test.YtlhnjaeocoafnaaQ17
import Derived.Test.YtlhnjaeocoafnaaQ21
import Derived.Test.YtlhnjaeocoafnaaQ19
import Derived.Test.YtlhnjaeocoafnaaQ16
import Derived.Deep.Cut
import Derived.Deep.CutRange
import Derived.Deep.RegionLaw
import Derived.Test.YtlhnjaeocoafnaaQ14
namespace Go.Proofs.Ytlhnjaeocoafnaa
open Go.RowKit
set_option maxRecDepth 100000

set_option maxRecDepth 100000 in
set_option maxHeartbeats 8000000 in
theorem ref16Told (s : SlV) (u v : Value) (l : List Nd) (ls : List Lk) (bal : List UInt64) (w : World) (h : SlE Ene w (sv s) l) (h1 : SlE Elk w u ls) (h2 : SlE Enum w v bal) (hn : l.length ≤ 1000) (hm : ls.length ≤ 1000) (hk : bal.length ≤ 1152921504606846976) :
    Calls Try.prog 37 #[.agg (tr ⟨s⟩), u, v] w fun e w' => e = .returned (.bool (toldF l ls bal)) ∧ Below w.heap.size w w' := by
  have HA := Lib.hid (fun W (g : Below w.heap.size w W) => refMayT s l W (slE_keep g h) hn)
  have HV := Lib.hid (fun W (g : Below w.heap.size w W) => ref15May u ls W (slE_keep g h1) hm)
  have HC := Lib.hid (fun W (g : Below w.heap.size w W) => ref11May v bal W (slE_keep g h2) hk)
  have HT : Hid (toldF l ls bal = (decide (MayT l) && (mayL ls && mayB bal))) := rfl
  rw [HT.out]
  generalize decide (MayT l) = a at *
  generalize mayL ls = b at *
  generalize mayB bal = c at *
  obtain ⟨W0, hW0⟩ : ∃ W0, W0 = w.alloc (.cells (tr ⟨s⟩) 24) := ⟨_, rfl⟩
  have HB : Hid (Below w.heap.size w W0) := by show Below _ _ _; rw [hW0]; exact below1
  have hz : W0.heap[w.heap.size]? = some (.cells (tr ⟨s⟩) 24 (0, 0)) := by rw [hW0]; exact heap_alloc_last w _
  have HW := Lib.hid hW0
  have z0 := (tr_cells hz).2.1
  clear hW0 h h1 h2 hn hm hk hz HT
  go_enter Try.func37, Try.ntmps37
  go_upto_region 1 with fail
  rw [← HW.out]
  go_wp2_with fail
  refine (HA.out W0 HB.out).mono ?_
  rintro e w1 ⟨rfl, g⟩
  have G1 := Lib.hid (belowT HB.out g)
  clear g z0
  go_wp2_with fail
  refine (HV.out _ G1.out).mono ?_
  rintro e w2 ⟨rfl, g⟩
  have G2 := Lib.hid (belowT G1.out g)
  clear g
  go_wp2_with fail
  refine (HC.out _ G2.out).mono ?_
  rintro e w3 ⟨rfl, g⟩
  have G3 := Lib.hid (belowT G2.out g)
  clear g
  cases a <;> cases b <;> cases c <;> (
    go_wp2_with fail
    go_ret
    exact ⟨rfl, G3.out⟩)
theorem enters_ref16Told : ∀ args w, (callFunc 37 args).run Try.prog w = .ok (.enter 37 args) w := entersE Try.func37 (by kernel_rfl) (by kernel_rfl)
end Go.Proofs.Ytlhnjaeocoafnaa
namespace Go.Proofs.Ytlhnjaeocoafnaa
open Go.RowKit
set_option maxRecDepth 100000

/-- Checkpoints, wherever they lie. -/
def CksIs (l : List Ck) (w : World) (e : Ending) (w' : World) : Prop := ∃ v, e = .returned v ∧ OwnE Ecc w' w.heap.size v l ∧ Below w.heap.size w w'
end Go.Proofs.Ytlhnjaeocoafnaa
namespace Go.Proofs.Ytlhnjaeocoafnaa
open Go.RowKit
set_option maxRecDepth 100000

theorem any_take {α : Type} {l : List α} {P : α → Bool} {q : Nat} (h : q < l.length) : (l.take (q + 1)).any P = ((l.take q).any P || P l[q]) := by
  rw [List.take_succ_eq_append_getElem h, List.any_append]; simp
theorem filter_take {α : Type} {l : List α} {P : α → Bool} {q : Nat} (h : q < l.length) : (l.take (q + 1)).filter P = (l.take q).filter P ++ (if P l[q] = true then [l[q]] else []) := by
  rw [List.take_succ_eq_append_getElem h, List.filter_append, List.filter_cons, List.filter_nil]
/-- Is it final by this link? -/
def finK (cnt : Lk → Bool) (js : List Ck) (c : Ck) (k : Lk) : Bool := cnt k && (decide (k.t ∈ js) && (decide (k.s = c) && decide (k.t.epoch.toNat = c.epoch.toNat + 1)))
theorem finalB_any (cnt : Lk → Bool) (ls : List Lk) (js : List Ck) (c : Ck) : finalB cnt ls js c = ls.any (finK cnt js c) := rfl
set_option maxRecDepth 100000 in
set_option maxHeartbeats 8000000 in
theorem ref16Finals_n (s : SlV) (q p : Option Addr) (m cq n cp : Nat) (vb : Value) (l : List Nd) (ls : List Lk) (bal : List UInt64) (js : List Ck) (w : World) (h : SlE Ene w (sv s) l) (h1 : SlE Elk w (.slice q m cq) ls) (h2 : SlE Enum w vb bal) (h3 : SlE Ecc w (.slice p n cp) js) (hm : ls.length = m) (hjn : js.length = n) (hn : l.length ≤ 1000) (hk : bal.length ≤ 1152921504606846976) (hmn : m ≤ 1000) (hj : n ≤ 1000) :
    Calls Try.prog 15 #[.agg (tr ⟨s⟩), .slice q m cq, vb, .slice p n cp] w (CksIs (finalsL l ls bal js) w) := by
  have HT := Lib.hid (fun W (g : Below w.heap.size w W) => ref16Told s (.slice q m cq) vb l ls bal W (slE_keep g h) (slE_keep g h1) (slE_keep g h2) hn (by omega) hk)
  have HA := Lib.hid (fun k W (g : Below w.heap.size w W) => ref16Counts s vb l k bal W (slE_keep g h) (slE_keep g h2) hn hk)
  have HH := Lib.hid (fun c W (g : Below w.heap.size w W) => ref16Has (.slice p n cp) js c W (slE_keep g h3) (by omega))
  have HNo : Hid (toldF l ls bal = false → finalsL l ls bal js = []) := finalsL_no
  have HYes : Hid (toldF l ls bal = true → finalsL l ls bal js = js.filter (finalB (cntB l bal) ls js)) := finalsL_yes
  have HUp : Hid (toldF l ls bal = true → ∀ i, i < ls.length → 1 ≤ (lkAt ls i).t.epoch.toNat) := fun e i hi => by
    have := ((mayL_iff.1 (told_iffF.1 e).2.1).1 i hi).1.1; omega
  generalize toldF l ls bal = t at *
  generalize finalsL l ls bal js = r at *
  generalize cntB l bal = cnt at *
  have HL := Lib.hid hm
  have HJn := Lib.hid hjn
  have HN := Lib.hid hj
  have HM := Lib.hid hmn
  obtain ⟨W0, hW0⟩ : ∃ W0, W0 = w.alloc (.cells (tr ⟨s⟩) 24) := ⟨_, rfl⟩
  have HB : Hid (Below w.heap.size w W0) := by show Below _ _ _; rw [hW0]; exact below1
  have hz : W0.heap[w.heap.size]? = some (.cells (tr ⟨s⟩) 24 (0, 0)) := by rw [hW0]; exact heap_alloc_last w _
  have HW := Lib.hid hW0
  have HZ := Lib.hid hz
  have HS := Lib.hid (slE_keep HB.out h1)
  have HJ := Lib.hid (slE_keep HB.out h3)
  have z0 := (tr_cells hz).2.1
  clear hW0 h h1 h2 h3 hm hjn hn hk hj hmn hz
  go_enter Try.func15, Try.ntmps15
  go_upto_region 1 with fail
  rw [← HW.out]
  go_wp2_with fail
  refine (HT.out _ HB.out).mono ?_
  rintro e w3 ⟨rfl, g3⟩
  have G3 := Lib.hid g3
  clear g3 z0
  cases t
  · have hR := Lib.hid (HNo.out rfl)
    go_wp2_with fail
    go_loopw [9, 11] (fun a i wr => i = .int .i64 0 ∧ a = .slice none 0 0 ∧ Below W0.heap.size W0 wr) (fun _ _ _ => 0)
    case atStart => exact ⟨rfl, rfl, G3.out⟩
    case round =>
      obtain ⟨rfl, rfl, hg⟩ := hrel
      have HG := Lib.hid hg
      clear hg
      obtain ⟨d, hd⟩ : ∃ d, d = decide ((0 : Int) < (n : Int)) := ⟨_, rfl⟩
      have hd' : decide (0 < n) = d := by rw [hd]; exact decide_eq_decide.2 (by omega)
      replace hd := hd.symm
      cases d <;> (
        go_wp2_with fail
        go_ret
        exact ⟨_, rfl, by rw [hR.out]; exact ownE_nil _ _ _, belowT HB.out HG.out⟩)
  · have hR := Lib.hid (HYes.out rfl)
    have HUp2 := Lib.hid (HUp.out rfl)
    go_wp2_with fail
    go_loopw [9, 11] (fun a i wr => ∃ j : Nat, j ≤ n ∧ i = .int .i64 (j : Int) ∧ OwnE Ecc wr W0.heap.size a ((js.take j).filter (finalB cnt ls js)) ∧ Below W0.heap.size W0 wr) (fun _ i _ => n - (intOf i).toNat)
    case atStart => exact ⟨0, Nat.zero_le _, rfl, ownE_nil _ _ _, G3.out⟩
    case round =>
      obtain ⟨j, hj, rfl, ho, hg⟩ := hrel
      obtain ⟨wo, rfl⟩ : ∃ wo : World, wo = wr := ⟨_, rfl⟩
      have O := Lib.hid ho
      have HG := Lib.hid hg
      clear ho hg
      by_cases hlt : j < n
      · have i0 : (0 : Int) ≤ (j : Int) := by omega
        have i1 : (j : Int) < (n : Int) := by omega
        have u1 : (j : Int) + 1 < 10000 := by have := HN.out; omega
        have d0 : decide ((j : Int) < (n : Int)) = true := decide_eq_true i1
        have d0' : decide (j < n) = true := decide_eq_true hlt
        have HLT := Lib.hid hlt
        have HFj : Hid (finalB cnt ls js (ckAt js j) = ls.any (finK cnt js (ckAt js j))) := finalB_any cnt ls js _
        have HSt : Hid ((js.take (j + 1)).filter (finalB cnt ls js) = (js.take j).filter (finalB cnt ls js) ++ (if finalB cnt ls js (ckAt js j) = true then [ckAt js j] else [])) := by
          show _ = _
          rw [ckAt_in (by rw [HJn.out]; exact hlt)]
          exact filter_take (by rw [HJn.out]; exact hlt)
        obtain ⟨b1, o1, rfl, _, x1⟩ := ccs_ptr (slE_keep HG.out HJ.out) (by have := HJn.out; omega)
        have X1 := Lib.hid x1
        have HCj : Hid (∀ W, Below wo.heap.size wo W → ldA W (.pointer (some ⟨b1, o1 + j * 33, none⟩)) 33 = some (cc (ckAt js j)) ∧ W.cell? ⟨b1, o1 + j * 33, none⟩ = some (.int .u64 ((ckAt js j).epoch.toNat : Int))) := fun W g => ⟨ccs_ld (keepR g X1.out) (by have := HJn.out; have := HLT.out; omega), ccs_e (keepR g X1.out) (by have := HJn.out; have := HLT.out; omega)⟩
        obtain ⟨pre, hpre⟩ : ∃ pre, pre = (js.take j).filter (finalB cnt ls js) := ⟨_, rfl⟩
        have HPl : Hid (pre.length ≤ 1000) := by
          show _ ≤ _
          rw [hpre]
          have a1 := List.length_filter_le (finalB cnt ls js) (js.take j)
          rw [List.length_take] at a1
          have := HN.out
          omega
        rw [← hpre] at O HSt
        generalize hC : ckAt js j = C at *
        clear hlt x1 hpre hC
        go_wp2_with fail
        go_loopw [12, 13] (fun x k wr => ∃ y : Nat, y ≤ m ∧ k = .int .i64 (y : Int) ∧ x = .bool ((ls.take y).any (finK cnt js C)) ∧ Below wo.heap.size wo wr) (fun _ k _ => m - (intOf k).toNat)
        case atStart => exact ⟨0, Nat.zero_le _, rfl, rfl, Below.refl _ _⟩
        case round =>
          obtain ⟨y, hy, rfl, rfl, hi⟩ := hrel
          have HI := Lib.hid hi
          clear hi
          by_cases hym : y < m
          · have k0 : (0 : Int) ≤ (y : Int) := by omega
            have k1 : (y : Int) < (m : Int) := by omega
            have k2 : (y : Int) + 1 < 10000 := by have := HM.out; omega
            have d1 : decide ((y : Int) < (m : Int)) = true := decide_eq_true k1
            have d1' : decide (y < m) = true := decide_eq_true hym
            have HYM := Lib.hid hym
            obtain ⟨b2, o2, rfl, _, x2⟩ := lks_ptr (slE_keep (belowT HG.out HI.out) HS.out) (by have := HL.out; omega)
            have X2 := Lib.hid x2
            have HLd : Hid (∀ W, Below wr.heap.size wr W → ldA W (.pointer (some ⟨b2, o2 + y * 67, none⟩)) 67 = some (lk (lkAt ls y)) ∧ ldA W (.pointer (some ⟨b2, o2 + y * 67, none⟩)) 33 = some (cc (lkAt ls y).s) ∧ ldA W (.pointer (some ⟨b2, o2 + y * 67 + 33, none⟩)) 33 = some (cc (lkAt ls y).t) ∧ W.cell? ⟨b2, o2 + y * 67 + 33, none⟩ = some (.int .u64 ((lkAt ls y).t.epoch.toNat : Int))) := fun W g => ⟨lks_ld (keepR g X2.out) (by have := HL.out; have := HYM.out; omega), lks_s (keepR g X2.out) (by have := HL.out; have := HYM.out; omega), lks_t (keepR g X2.out) (by have := HL.out; have := HYM.out; omega), lks_te (keepR g X2.out) (by have := HL.out; have := HYM.out; omega)⟩
            have HSx : Hid ((ls.take (y + 1)).any (finK cnt js C) = ((ls.take y).any (finK cnt js C) || finK cnt js C (lkAt ls y))) := by
              show _ = _
              rw [lkAt_in (by rw [HL.out]; exact hym)]
              exact any_take (by rw [HL.out]; exact hym)
            have hT1 := HUp2.out y (by rw [HL.out]; exact hym)
            have HA' := Lib.hid (HA.out (lkAt ls y))
            have HT' := Lib.hid (HH.out (lkAt ls y).t)
            generalize lkAt ls y = K at *
            obtain ⟨E1, hE1⟩ : ∃ E, E = decide (K.s = C) := ⟨_, rfl⟩
            obtain ⟨E2, hE2⟩ : ∃ E, E = decide (K.t.epoch.toNat = C.epoch.toNat + 1) := ⟨_, rfl⟩
            have HFK : Hid (finK cnt js C K = (cnt K && (decide (K.t ∈ js) && (E1 && E2)))) := by show _ = _; rw [hE1, hE2]; rfl
            have HE1 := Lib.hid hE1
            generalize cnt K = a1 at *
            generalize decide (K.t ∈ js) = a2 at *
            obtain ⟨any0, hany⟩ : ∃ any0, any0 = (ls.take y).any (finK cnt js C) := ⟨_, rfl⟩
            rw [← hany] at HSx
            rw [← hany]
            have HC2 := Lib.hid (fun W (g : Below wr.heap.size wr W) => HCj.out W (belowT HI.out g))
            obtain ⟨Te, hTe⟩ : ∃ Te, Te = K.t.epoch.toNat := ⟨_, rfl⟩
            have hTl : Te < 18446744073709551616 := by rw [hTe]; exact K.t.epoch.toNat_lt
            obtain ⟨Ce, hCe⟩ : ∃ Ce, Ce = C.epoch.toNat := ⟨_, rfl⟩
            rw [← hTe] at HLd hT1 hE2
            rw [← hCe] at HC2 hE2
            obtain ⟨Qe, hQe⟩ : ∃ Qe : Nat, (Te : Int) - 1 = (Qe : Int) := ⟨Te - 1, by omega⟩
            have hQ0 : (0 : Int) ≤ (Qe : Int) := by omega
            have hQl : (Qe : Int) < 18446744073709551616 := by omega
            have t2 : ((Qe : Int) == (Ce : Int)) = E2 := by rw [hE2, Bool.eq_iff_iff, beq_iff_eq, decide_eq_true_iff]; omega
            have t2' : (Qe == Ce) = E2 := by rw [hE2, Bool.eq_iff_iff, beq_iff_eq, decide_eq_true_iff]; omega
            have t2'' : decide (Qe = Ce) = E2 := by rw [hE2]; exact decide_eq_decide.2 (by omega)
            have HQ := Lib.hid (show (Te : Int) - 1 = (Qe : Int) ∧ (0 : Int) ≤ (Qe : Int) ∧ (Qe : Int) < 18446744073709551616 ∧ ((Qe : Int) == (Ce : Int)) = E2 ∧ (Qe == Ce) = E2 ∧ decide (Qe = Ce) = E2 from ⟨hQe, hQ0, hQl, t2, t2', t2''⟩)
            have y1 := (HLd.out wr (Below.refl _ _)).1
            have z0 := (tr_cells (blk_keep (belowT HG.out HI.out) HZ.out)).2.1
            clear hym x2 hE1 hE2 hany hTe hCe hQe hQ0 hQl t2 t2' t2'' hT1 hTl
            go_wp2_with fail
            have L0 := fun p : Wd wr.drew => wd_ld y1 (by decide) p
            have L1 := fun p : Wd wr.drew => wd_ld z0 (by decide) p
            clear y1 z0
            refine wp_region_lex [6] (by kernel_rfl) (by kernel_rfl) (by kernel_rfl) ?_
            repeat (first | (refine wpXL_quiet rfl rfl _ cls_begin ?_; (first | go_big_quiet_step (fail) | quiet_step (fail)); refine wpQuiet_nil ?_) | refine wpXL_skip rfl ?_)
            refine wpXL_call rfl rfl rfl enters_ref16Counts #[.agg (tr ⟨s⟩), .agg (lk K), vb] rfl ?_
            refine (HA'.out _ (belowT HB.out (belowT HG.out (belowD HI.out 1)))).mono ?_
            rintro e u ⟨rfl, g⟩
            refine ⟨_, rfl, g, ?_⟩
            simp only [Act.put, List.setIfInBounds_toArray, List.set_cons_zero, List.set_cons_succ]
            have G1 : Hid (Below wr.heap.size wr u) := belowT (belowD (Below.refl _ _) 1) g
            clear g
            repeat (first | (refine wpXL_quiet rfl rfl _ cls_begin ?_; (first | go_big_quiet_step (fail) | quiet_step (fail)); refine wpQuiet_nil ?_) | refine wpXL_skip rfl ?_)
            refine wpXL_nil ?_
            clear L0 L1
            have y1 := (HLd.out u G1.out).2.2.1
            go_wp2_with fail
            refine (HT'.out _ (belowT HB.out (belowT HG.out (belowT HI.out G1.out)))).mono ?_
            rintro e u2 ⟨rfl, g⟩
            have G2 : Hid (Below wr.heap.size wr u2) := belowT G1.out g
            clear g y1
            obtain ⟨_, y1, _, y2⟩ := HLd.out u2 G2.out
            obtain ⟨y3, y4⟩ := HC2.out u2 G2.out
            have t1 := HE1.out.symm
            obtain ⟨q1, q2, q3, q4, q5, q6⟩ := HQ.out
            cases any0 <;> cases a1 <;> cases a2 <;> cases E1 <;> (
              go_wp2_with fail
              go_quiet (fail)
              go_wp2_with fail
              go_roundw
              case rel => exact ⟨y + 1, HYM.out, by go_num, by rw [HSx.out, HFK.out]; first | done | rfl | (cases E2 <;> rfl), belowD (belowT HI.out G2.out) _⟩
              case measure => simp [intOf]; have := HYM.out; omega)
          · obtain rfl : y = m := by omega
            have d1 : decide ((y : Int) < (y : Int)) = false := decide_eq_false (Int.lt_irrefl _)
            have d1' : decide (y < y) = false := decide_eq_false (Nat.lt_irrefl _)
            have hF : Hid ((ls.take y).any (finK cnt js C) = finalB cnt ls js C) := by
              show _ = _
              rw [List.take_of_length_le (by rw [HL.out]; exact Nat.le_refl _)]; exact HFj.out.symm
            have HZb : Hid (W0.heap.size ≤ wr.heap.size) := (belowT HG.out HI.out).size
            have O2 := Lib.hid (ownE_keep HI.out O.out)
            have y1 := (HCj.out wr HI.out).1
            have HBw : Hid (Below W0.heap.size W0 wr) := belowT HG.out HI.out
            rw [hF.out]
            generalize finalB cnt ls js C = f at *
            clear hym
            cases f
            · go_wp2_with fail
              go_roundw
              case rel => exact ⟨j + 1, HLT.out, by go_num, by rw [HSt.out]; simpa using O2.out, HBw.out⟩
              case measure => simp [intOf]; have := HLT.out; omega
            · go_wp2_with (at_builtin; refine wpList_append_E Kcc _ rfl (.tmp 84) (.tmp 89) rfl W0.heap.size _ pre rfl (ownE_alloc O2.out _) _ [C] rfl (cc_lit1 _ _ _ rfl) (by have := HPl.out; simp; omega) (by have := HZb.out; simp; omega) ?_; intro v5 w5 ho5 hg5; have O5 := Lib.hid ho5; have G5 : Hid (Below W0.heap.size W0 w5) := HBw.out.trans ((Gr.alloc hg5).own O2.out HZb.out); clear ho5 hg5)
              go_roundw
              case rel => exact ⟨j + 1, HLT.out, by go_num, by rw [HSt.out]; simpa using O5.out, G5.out⟩
              case measure => simp [intOf]; have := HLT.out; omega
      · obtain rfl : j = n := by omega
        have d0 : decide ((j : Int) < (j : Int)) = false := decide_eq_false (Int.lt_irrefl _)
        have d0' : decide (j < j) = false := decide_eq_false (Nat.lt_irrefl _)
        have hF : Hid (r = (js.take j).filter (finalB cnt ls js)) := by
          show r = _
          rw [hR.out, List.take_of_length_le (by rw [HJn.out]; exact Nat.le_refl _)]
        clear hlt
        go_wp2_with fail
        go_ret
        exact ⟨_, rfl, by rw [hF.out]; exact ownE_base O.out HB.out.size, belowT HB.out HG.out⟩
theorem ref16Finals (s : SlV) (u vb vj : Value) (l : List Nd) (ls : List Lk) (bal : List UInt64) (js : List Ck) (w : World) (h : SlE Ene w (sv s) l) (h1 : SlE Elk w u ls) (h2 : SlE Enum w vb bal) (h3 : SlE Ecc w vj js) (hn : l.length ≤ 1000) (hk : bal.length ≤ 1152921504606846976) (hmn : ls.length ≤ 1000) (hj : js.length ≤ 1000) :
    Calls Try.prog 15 #[.agg (tr ⟨s⟩), u, vb, vj] w (CksIs (finalsL l ls bal js) w) := by
  have k := h1
  have k' := h3
  obtain ⟨p, cp, rfl, _⟩ := slE_shape h1
  obtain ⟨q, cq, rfl, _⟩ := slE_shape h3
  exact ref16Finals_n s p q _ cp _ cq vb l ls bal js w h k h2 k' rfl rfl hn hk hmn hj
theorem enters_ref16Finals : ∀ args w, (callFunc 15 args).run Try.prog w = .ok (.enter 15 args) w := entersE Try.func15 (by kernel_rfl) (by kernel_rfl)
end Go.Proofs.Ytlhnjaeocoafnaa
