/-
  The document's: Next, walked. (written by wip/gen/ref16.py)
  The document's: Best, walked. (written by wip/gen/ref16.py)
-/
import Derived.Test.YtlhnjaeocoafnaaQ16
import Derived.Test.YtlhnjaeocoafnaaQ18
import Derived.Test.YtlhnjaeocoafnaaQ19
import Derived.Test.YtlhnjaeocoafnaaQ22
namespace Go.Proofs.Ytlhnjaeocoafnaa
open Go.RowKit
set_option maxRecDepth 100000

theorem finals_len {l : List Nd} {ls : List Lk} {bal : List UInt64} {js : List Ck} : (finalsL l ls bal js).length ≤ js.length := by
  unfold finalsL
  split
  · exact List.length_filter_le _ _
  · exact Nat.zero_le _
theorem Bv.drewN {w W : World} {s : SlV} {fin o : Ck} {R : Nat} (h : Bv w W s fin R o) (k : Nat) : Bv w (W.drewN k) s fin R o := ⟨h.t, h.f, h.r, h.o, belowD h.g k, h.R⟩
set_option maxRecDepth 100000 in
set_option maxHeartbeats 8000000 in
theorem ref16Next (s : SlV) (u vb vj : Value) (l : List Nd) (ls : List Lk) (bal : List UInt64) (js0 : List Ck) (fin : Ck) (w : World) (h : SlE Ene w (sv s) l) (h1 : SlE Elk w u ls) (h2 : SlE Enum w vb bal) (h3 : SlE Ecc w vj js0) (hn : l.length ≤ 1000) (hk : bal.length ≤ 1152921504606846976) (hmn : ls.length ≤ 1000) (hj : js0.length ≤ 1000) :
    Calls Try.prog 18 #[.agg (tr ⟨s⟩), u, vb, vj, .agg (cc fin)] w fun e w' => e = .returned (.agg (cc (nextC l ls bal js0 fin))) ∧ Below w.heap.size w w' := by
  have HBh := Lib.hid (fun c W (g : Below w.heap.size w W) => ref16Behind s l c fin W (slE_keep g h) hn)
  have HBt := Lib.hid (fun a b W => ref16Better a b W)
  obtain ⟨r, hr⟩ : ∃ r, r = nextC l ls bal js0 fin := ⟨_, rfl⟩
  rw [← hr]
  have HR := Lib.hid hr
  have HFi := Lib.hid (fun W (g : Below w.heap.size w W) => ref16Finals s u vb vj l ls bal js0 W (slE_keep g h) (slE_keep g h1) (slE_keep g h2) (slE_keep g h3) hn hk hmn hj)
  have HJl : Hid ((finalsL l ls bal js0).length ≤ 1000) := by show _ ≤ _; exact Nat.le_trans finals_len hj
  have HR2 : Hid (r = bestC lessR (okN l fin) (finalsL l ls bal js0) fin) := hr
  obtain ⟨js, hjs⟩ : ∃ js, js = finalsL l ls bal js0 := ⟨_, rfl⟩
  rw [← hjs] at HFi HJl HR2
  replace HR := HR2
  obtain ⟨W3, hW3⟩ : ∃ W3, W3 = ((w.alloc (.cells (tr ⟨s⟩) 24)).alloc (.cells (cc fin) 32)).alloc (.cells (cc zcc) 32) := ⟨_, rfl⟩
  obtain ⟨hB, k0, k1, k2, hz0⟩ := heap3 w _ _ _ _ _ _ W3 hW3
  have HW := Lib.hid hW3
  have y0 := (ck_v k1).a
  have D := Lib.hid (bv_new (s := s) (fin := fin) hB k0 k1 k2)
  clear hW3 hB k0 k1 k2 hz0 hr hj HR2 hjs h1 h2 h3 hk hmn
  go_enter Try.func18, Try.ntmps18
  go_upto_region 1 with fail
  rw [← HW.out]
  go_upto_region 2 with fail
  obtain ⟨W0, hW0⟩ : ∃ W0, W0 = W3.alloc (.cells (cc fin) 32) := ⟨_, rfl⟩
  rw [← hW0]
  rw [← hW0] at D
  generalize W3.heap.size = R at *
  clear hW0 y0 HW
  have z0 := (tr_cells D.out.t).2.1
  go_wp2_with fail
  refine (HFi.out _ D.out.g).mono ?_
  rintro e wf ⟨v, rfl, ho, g⟩
  replace D' := Lib.hid (D.out.keep g)
  have O := Lib.hid ho
  have HRB : Hid (R < W0.heap.size) := (Array.getElem?_eq_some_iff.1 D.out.o).1
  replace D := D'
  generalize W0.heap.size = B at *
  obtain ⟨n, hl⟩ : ∃ n, js.length = n := ⟨_, rfl⟩
  obtain ⟨p, cp, hv⟩ := ownE_len O.out hl
  subst hv
  have HL := Lib.hid hl
  have HN : Hid (n ≤ 1000) := by show n ≤ 1000; rw [← hl]; exact HJl.out
  clear ho g D' hl z0 HFi HJl
  go_wp2_with fail
  go_loopw [13] (fun i wr => ∃ (j : Nat) (o : Ck), j ≤ n ∧ i = .int .i64 (j : Int) ∧ bestC lessR (okN l fin) (js.drop j) o = r ∧ Bv w wr s fin R o ∧ OwnE Ecc wr B (.slice p n cp) js) (fun i _ => n - (intOf i).toNat)
  case atStart => exact ⟨0, fin, Nat.zero_le _, rfl, HR.out.symm, D.out, O.out⟩
  case round =>
    obtain ⟨j, o, hj, rfl, hb, hD, ho⟩ := hrel
    have HBe := Lib.hid hb
    replace D := Lib.hid hD
    have O := Lib.hid ho
    clear ho
    clear hb hD
    by_cases hlt : j < n
    · have i0 : (0 : Int) ≤ (j : Int) := by omega
      have i1 : (j : Int) < (n : Int) := by omega
      have u1 : (j : Int) + 1 < 10000 := by have := HN.out; omega
      have d0 : decide ((j : Int) < (n : Int)) = true := decide_eq_true i1
      have d0' : decide (j < n) = true := decide_eq_true hlt
      have HLT := Lib.hid hlt
      obtain ⟨b1, o1, rfl, _, x1⟩ := ccs_ptr (ownE_slE O.out) (by have := HL.out; omega)
      have X1 := Lib.hid x1
      have HLd : Hid (∀ W, Below wr.heap.size wr W → ldA W (.pointer (some ⟨b1, o1 + j * 33, none⟩)) 33 = some (cc (ckAt js j)) ∧ W.cell? ⟨b1, o1 + j * 33, none⟩ = some (.int .u64 ((ckAt js j).epoch.toNat : Int))) := fun W g => ⟨ccs_ld (keepR g X1.out) (by have := HL.out; have := HLT.out; omega), ccs_e (keepR g X1.out) (by have := HL.out; have := HLT.out; omega)⟩
      have HSt := Lib.hid (best_step (ok := (okN l fin)) (js := js) (j := j) (by rw [HL.out]; exact hlt) o)
      generalize ckAt js j = C at *
      have HBh' := Lib.hid (HBh.out C)
      have HBt' := Lib.hid (HBt.out o C)
      obtain ⟨E, hE⟩ : ∃ E, E = decide (fin.epoch.toNat < C.epoch.toNat) := ⟨_, rfl⟩
      have HOK : Hid (okN l fin C = (behindB l C fin && E)) := by show _ = _; rw [hE]; rfl
      generalize behindB l C fin = a at *
      generalize betC lessR o C = b at *
      have y1 := (HLd.out wr (Below.refl _ _)).1
      have z0 := (tr_cells D.out.t).2.1
      have z1 := (ck_v D.out.f).a
      clear x1 hlt
      go_wp2_with fail
      have L0 := fun p : Wd wr.drew => wd_ld y1 (by decide) p
      have L1 := fun p : Wd wr.drew => wd_ld z0 (by decide) p
      have L2 := fun p : Wd wr.drew => wd_ld z1 (by decide) p
      clear y1 z0 z1
      refine wp_region_lex [6] (by kernel_rfl) (by kernel_rfl) (by kernel_rfl) ?_
      repeat (first | (refine wpXL_quiet rfl rfl _ cls_begin ?_; (first | go_big_quiet_step (fail) | quiet_step (fail)); refine wpQuiet_nil ?_) | refine wpXL_skip rfl ?_)
      refine wpXL_call rfl rfl rfl enters_ref16Behind #[.agg (tr ⟨s⟩), .agg (cc C), .agg (cc fin)] rfl ?_
      refine (HBh'.out _ (belowD D.out.g 1)).mono ?_
      rintro e u ⟨rfl, g⟩
      refine ⟨_, rfl, g, ?_⟩
      simp only [Act.put, List.setIfInBounds_toArray, List.set_cons_zero, List.set_cons_succ]
      have G1 : Hid (Below wr.heap.size wr u) := belowT (belowD (Below.refl _ _) 1) g
      clear g
      repeat (first | (refine wpXL_quiet rfl rfl _ cls_begin ?_; (first | go_big_quiet_step (fail) | quiet_step (fail)); refine wpQuiet_nil ?_) | refine wpXL_skip rfl ?_)
      refine wpXL_nil ?_
      clear L0 L1 L2
      replace D := Lib.hid (D.out.keep G1.out)
      have y1 := (HLd.out u G1.out).1
      have z1 := (ck_v D.out.o).a
      go_wp2_with fail
      have L0 := fun p : Wd u.drew => wd_ld y1 (by decide) p
      have L1 := fun p : Wd u.drew => wd_ld z1 (by decide) p
      clear y1 z1
      refine wp_region_lex [5] (by kernel_rfl) (by kernel_rfl) (by kernel_rfl) ?_
      repeat (first | (refine wpXL_quiet rfl rfl _ cls_begin ?_; (first | go_big_quiet_step (fail) | quiet_step (fail)); refine wpQuiet_nil ?_) | refine wpXL_skip rfl ?_)
      refine wpXL_call rfl rfl rfl enters_ref16Better #[.agg (cc o), .agg (cc C)] rfl ?_
      refine (HBt'.out _).mono ?_
      rintro e u2 ⟨rfl, g⟩
      refine ⟨_, rfl, g, ?_⟩
      simp only [Act.put, List.setIfInBounds_toArray, List.set_cons_zero, List.set_cons_succ]
      have G2 : Hid (Below u.heap.size u u2) := belowT (belowD (Below.refl _ _) 1) g
      clear g
      repeat (first | (refine wpXL_quiet rfl rfl _ cls_begin ?_; (first | go_big_quiet_step (fail) | quiet_step (fail)); refine wpQuiet_nil ?_) | refine wpXL_skip rfl ?_)
      refine wpXL_nil ?_
      clear L0 L1
      replace D := Lib.hid (D.out.keep G2.out)
      have G3 : Hid (Below wr.heap.size wr u2) := belowT G1.out G2.out
      clear G1 G2
      replace O := Lib.hid (ownE_keep G3.out O.out)
      obtain ⟨y1, y2⟩ := HLd.out u2 G3.out
      have y3 := (ck_v D.out.f).e
      have z1 := wrA_block D.out.o (cc_size _)
      obtain ⟨Ce, hCe⟩ : ∃ Ce, Ce = C.epoch.toNat := ⟨_, rfl⟩
      obtain ⟨Fe, hFe⟩ : ∃ Fe, Fe = fin.epoch.toNat := ⟨_, rfl⟩
      rw [← hCe] at y2 hE
      rw [← hFe] at y3 hE
      have t1 : decide ((Fe : Int) < (Ce : Int)) = E := by rw [hE]; exact decide_eq_decide.2 (by omega)
      have t1' : decide (Fe < Ce) = E := hE.symm
      clear hE hCe hFe
      cases a <;> cases b <;> cases E
      case true.true.true =>
        go_wp2_with fail
        go_quiet (fail)
        go_wp2_with fail
        go_roundw
        case rel => exact ⟨j + 1, C, HLT.out, by go_num, by rw [← HBe.out, HSt.out, HOK.out]; rfl, D.out.put C |>.drewN _, ownE_stA O.out HRB.out⟩
        case measure => simp [intOf]; have := HLT.out; omega
      all_goals (
        go_wp2_with fail
        go_quiet (fail)
        go_wp2_with fail
        go_roundw
        case rel => exact ⟨j + 1, o, HLT.out, by go_num, by rw [← HBe.out, HSt.out, HOK.out]; rfl, D.out.drewN _, O.out⟩
        case measure => simp [intOf]; have := HLT.out; omega)
    · obtain rfl : j = n := by omega
      have d0 : decide ((j : Int) < (j : Int)) = false := decide_eq_false (Int.lt_irrefl _)
      have d0' : decide (j < j) = false := decide_eq_false (Nat.lt_irrefl _)
      have hF : Hid (o = r) := by
        show o = r
        rw [← HBe.out, List.drop_eq_nil_of_le (by rw [HL.out]; exact Nat.le_refl _)]; rfl
      have y1 := (ck_v D.out.o).a
      have z1 := wrA_block D.out.r (cc_size _)
      clear hlt
      go_wp2_with fail
      exact bodyPost_ret (results_agg1 Try.isAgg32 Try.sizeOf32 _ 10 rfl _ _ _ _ rfl (ldA_block (heap_putC D.out.r) (cc_size _))) rfl ⟨by rw [hF.out], below_stA D.out.g (by omega)⟩
theorem enters_ref16Next : ∀ args w, (callFunc 18 args).run Try.prog w = .ok (.enter 18 args) w := entersE Try.func18 (by kernel_rfl) (by kernel_rfl)
end Go.Proofs.Ytlhnjaeocoafnaa
namespace Go.Proofs.Ytlhnjaeocoafnaa
open Go.RowKit
set_option maxRecDepth 100000

set_option maxRecDepth 100000 in
set_option maxHeartbeats 8000000 in
theorem ref16Best_n (s : SlV) (p : Option Addr) (n cp : Nat) (l : List Nd) (js : List Ck) (fin : Ck) (w : World) (h : SlE Ene w (sv s) l) (h3 : SlE Ecc w (.slice p n cp) js) (hl : js.length = n) (hn : l.length ≤ 1000) (hj : n ≤ 1000) :
    Calls Try.prog 20 #[.agg (tr ⟨s⟩), .slice p n cp, .agg (cc fin)] w fun e w' => e = .returned (.agg (cc (bestJ l js fin))) ∧ Below w.heap.size w w' := by
  have HBh := Lib.hid (fun c W (g : Below w.heap.size w W) => ref16Behind s l c fin W (slE_keep g h) hn)
  have HBt := Lib.hid (fun a b W => ref16Better a b W)
  obtain ⟨r, hr⟩ : ∃ r, r = bestJ l js fin := ⟨_, rfl⟩
  rw [← hr]
  have HR := Lib.hid hr
  have HL := Lib.hid hl
  have HN := Lib.hid hj
  obtain ⟨W3, hW3⟩ : ∃ W3, W3 = ((w.alloc (.cells (tr ⟨s⟩) 24)).alloc (.cells (cc fin) 32)).alloc (.cells (cc zcc) 32) := ⟨_, rfl⟩
  obtain ⟨hB, k0, k1, k2, hz0⟩ := heap3 w _ _ _ _ _ _ W3 hW3
  have HW := Lib.hid hW3
  have y0 := (ck_v k1).a
  have D := Lib.hid (bv_new (s := s) (fin := fin) hB k0 k1 k2)
  clear hW3 hB k0 k1 k2 hz0 hr hl hj
  go_enter Try.func20, Try.ntmps20
  go_upto_region 1 with fail
  rw [← HW.out]
  go_upto_region 2 with fail
  obtain ⟨W0, hW0⟩ : ∃ W0, W0 = W3.alloc (.cells (cc fin) 32) := ⟨_, rfl⟩
  rw [← hW0]
  rw [← hW0] at D
  generalize W3.heap.size = R at *
  clear hW0 y0 HW
  go_wp2_with fail
  go_loopw [8] (fun i wr => ∃ (j : Nat) (o : Ck), j ≤ n ∧ i = .int .i64 (j : Int) ∧ bestC lessR (fun c => behindB l c fin) (js.drop j) o = r ∧ Bv w wr s fin R o) (fun i _ => n - (intOf i).toNat)
  case atStart => exact ⟨0, fin, Nat.zero_le _, rfl, HR.out.symm, D.out⟩
  case round =>
    obtain ⟨j, o, hj, rfl, hb, hD⟩ := hrel
    have HBe := Lib.hid hb
    replace D := Lib.hid hD
    clear hb hD
    by_cases hlt : j < n
    · have i0 : (0 : Int) ≤ (j : Int) := by omega
      have i1 : (j : Int) < (n : Int) := by omega
      have u1 : (j : Int) + 1 < 10000 := by have := HN.out; omega
      have d0 : decide ((j : Int) < (n : Int)) = true := decide_eq_true i1
      have d0' : decide (j < n) = true := decide_eq_true hlt
      have HLT := Lib.hid hlt
      obtain ⟨b1, o1, rfl, _, x1⟩ := ccs_ptr (slE_keep D.out.g h3) (by have := HL.out; omega)
      have X1 := Lib.hid x1
      have HLd : Hid (∀ W, Below wr.heap.size wr W → ldA W (.pointer (some ⟨b1, o1 + j * 33, none⟩)) 33 = some (cc (ckAt js j)) ∧ W.cell? ⟨b1, o1 + j * 33, none⟩ = some (.int .u64 ((ckAt js j).epoch.toNat : Int))) := fun W g => ⟨ccs_ld (keepR g X1.out) (by have := HL.out; have := HLT.out; omega), ccs_e (keepR g X1.out) (by have := HL.out; have := HLT.out; omega)⟩
      have HSt := Lib.hid (best_step (ok := (fun c => behindB l c fin)) (js := js) (j := j) (by rw [HL.out]; exact hlt) o)
      generalize ckAt js j = C at *
      have HBh' := Lib.hid (HBh.out C)
      have HBt' := Lib.hid (HBt.out o C)
      generalize behindB l C fin = a at *
      generalize betC lessR o C = b at *
      have y1 := (HLd.out wr (Below.refl _ _)).1
      have z0 := (tr_cells D.out.t).2.1
      have z1 := (ck_v D.out.f).a
      clear x1 hlt
      go_wp2_with fail
      have L0 := fun p : Wd wr.drew => wd_ld y1 (by decide) p
      have L1 := fun p : Wd wr.drew => wd_ld z0 (by decide) p
      have L2 := fun p : Wd wr.drew => wd_ld z1 (by decide) p
      clear y1 z0 z1
      refine wp_region_lex [6] (by kernel_rfl) (by kernel_rfl) (by kernel_rfl) ?_
      repeat (first | (refine wpXL_quiet rfl rfl _ cls_begin ?_; (first | go_big_quiet_step (fail) | quiet_step (fail)); refine wpQuiet_nil ?_) | refine wpXL_skip rfl ?_)
      refine wpXL_call rfl rfl rfl enters_ref16Behind #[.agg (tr ⟨s⟩), .agg (cc C), .agg (cc fin)] rfl ?_
      refine (HBh'.out _ (belowD D.out.g 1)).mono ?_
      rintro e u ⟨rfl, g⟩
      refine ⟨_, rfl, g, ?_⟩
      simp only [Act.put, List.setIfInBounds_toArray, List.set_cons_zero, List.set_cons_succ]
      have G1 : Hid (Below wr.heap.size wr u) := belowT (belowD (Below.refl _ _) 1) g
      clear g
      repeat (first | (refine wpXL_quiet rfl rfl _ cls_begin ?_; (first | go_big_quiet_step (fail) | quiet_step (fail)); refine wpQuiet_nil ?_) | refine wpXL_skip rfl ?_)
      refine wpXL_nil ?_
      clear L0 L1 L2
      replace D := Lib.hid (D.out.keep G1.out)
      have y1 := (HLd.out u G1.out).1
      have z1 := (ck_v D.out.o).a
      go_wp2_with fail
      have L0 := fun p : Wd u.drew => wd_ld y1 (by decide) p
      have L1 := fun p : Wd u.drew => wd_ld z1 (by decide) p
      clear y1 z1
      refine wp_region_lex [5] (by kernel_rfl) (by kernel_rfl) (by kernel_rfl) ?_
      repeat (first | (refine wpXL_quiet rfl rfl _ cls_begin ?_; (first | go_big_quiet_step (fail) | quiet_step (fail)); refine wpQuiet_nil ?_) | refine wpXL_skip rfl ?_)
      refine wpXL_call rfl rfl rfl enters_ref16Better #[.agg (cc o), .agg (cc C)] rfl ?_
      refine (HBt'.out _).mono ?_
      rintro e u2 ⟨rfl, g⟩
      refine ⟨_, rfl, g, ?_⟩
      simp only [Act.put, List.setIfInBounds_toArray, List.set_cons_zero, List.set_cons_succ]
      have G2 : Hid (Below u.heap.size u u2) := belowT (belowD (Below.refl _ _) 1) g
      clear g
      repeat (first | (refine wpXL_quiet rfl rfl _ cls_begin ?_; (first | go_big_quiet_step (fail) | quiet_step (fail)); refine wpQuiet_nil ?_) | refine wpXL_skip rfl ?_)
      refine wpXL_nil ?_
      clear L0 L1
      replace D := Lib.hid (D.out.keep G2.out)
      have G3 : Hid (Below wr.heap.size wr u2) := belowT G1.out G2.out
      clear G1 G2
      have y1 := (HLd.out u2 G3.out).1
      have z1 := wrA_block D.out.o (cc_size _)
      cases a <;> cases b
      case true.true =>
        go_wp2_with fail
        go_roundw
        case rel => exact ⟨j + 1, C, HLT.out, by go_num, by rw [← HBe.out, HSt.out]; rfl, D.out.put C⟩
        case measure => simp [intOf]; have := HLT.out; omega
      all_goals (
        go_wp2_with fail
        go_roundw
        case rel => exact ⟨j + 1, o, HLT.out, by go_num, by rw [← HBe.out, HSt.out]; rfl, D.out⟩
        case measure => simp [intOf]; have := HLT.out; omega)
    · obtain rfl : j = n := by omega
      have d0 : decide ((j : Int) < (j : Int)) = false := decide_eq_false (Int.lt_irrefl _)
      have d0' : decide (j < j) = false := decide_eq_false (Nat.lt_irrefl _)
      have hF : Hid (o = r) := by
        show o = r
        rw [← HBe.out, List.drop_eq_nil_of_le (by rw [HL.out]; exact Nat.le_refl _)]; rfl
      have y1 := (ck_v D.out.o).a
      have z1 := wrA_block D.out.r (cc_size _)
      clear hlt
      go_wp2_with fail
      exact bodyPost_ret (results_agg1 Try.isAgg32 Try.sizeOf32 _ 6 rfl _ _ _ _ rfl (ldA_block (heap_putC D.out.r) (cc_size _))) rfl ⟨by rw [hF.out], below_stA D.out.g (by omega)⟩
theorem ref16Best (s : SlV) (v : Value) (l : List Nd) (js : List Ck) (fin : Ck) (w : World) (h : SlE Ene w (sv s) l) (h3 : SlE Ecc w v js) (hn : l.length ≤ 1000) (hj : js.length ≤ 1000) :
    Calls Try.prog 20 #[.agg (tr ⟨s⟩), v, .agg (cc fin)] w fun e w' => e = .returned (.agg (cc (bestJ l js fin))) ∧ Below w.heap.size w w' := by
  have k := h3
  obtain ⟨p, cp, rfl, _⟩ := slE_shape h3
  exact ref16Best_n s p _ cp l js fin w h k rfl hn hj
theorem enters_ref16Best : ∀ args w, (callFunc 20 args).run Try.prog w = .ok (.enter 20 args) w := entersE Try.func20 (by kernel_rfl) (by kernel_rfl)
end Go.Proofs.Ytlhnjaeocoafnaa
