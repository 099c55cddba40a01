import Derived.Test.YtkalofboioffiaaGreatT15
namespace Go.Proofs.YtkalofboioffiaaGreat
open Go.RowKit
set_option maxRecDepth 200000
set_option maxHeartbeats 64000000
theorem zxe (s : SlV) (p : Option Addr) (n cp : Nat) (l : List Nd) (js : List Ck) (fin : Ck) (w : World) (h : SlE Ene w (sv s) l) (h3 : SlE Ecc w (.slice p n cp) js) (hl : js.length = n) (hn : l.length ≤ 1000) (hj : n ≤ 1000) :
  Calls Tryz.prog 33 #[.agg (tr ⟨s⟩), .slice p n cp, .agg (cc fin)] w fun e w' => e = .returned (.agg (cc (zh5 l js fin))) ∧ Below w.heap.size w w' := by
 have HBh := Lib.hid (fun c W (g : Below w.heap.size w W) => zif s l c fin W (zad g h) hn)
 have HBt := Lib.hid (fun a b W => zn6 a b W)
 obtain ⟨r, hr⟩ : ∃ r, r = zh5 l js fin := ⟨_, rfl⟩
 rw [← hr]
 have HR := Lib.hid hr
 have HL := Lib.hid hl
 have HN := Lib.hid hj
 obtain ⟨W3, hW3⟩ : ∃ W3, W3 = ((w.alloc (.cells (tr ⟨s⟩) 24)).alloc (.cells (cc fin) 36)).alloc (.cells (cc zcc) 36) := ⟨_, rfl⟩
 obtain ⟨hB, k0, k1, k2, hz0⟩ := zf2 w _ _ _ _ _ _ W3 hW3
 have HW := Lib.hid hW3
 have y0 := (ck_v k1).a
 have D := Lib.hid (z34 (s := s) (fin := fin) hB k0 k1 k2)
 clear hW3 hB k0 k1 k2 hz0 hr hl hj
 go_enter Tryz.func33, Tryz.ntmps33
 go_upto_region 1 with fail
 rw [← HW.out]
 go_upto_region 2 with fail
 obtain ⟨W0, hW0⟩ : ∃ W0, W0 = W3.alloc (.cells (cc fin) 36) := ⟨_, rfl⟩
 rw [← hW0]
 rw [← hW0] at D
 generalize W3.heap.size = R at *
 clear hW0 y0 HW
 go_wp2_with fail
 go_loopw [8] (fun i wr => ∃ (j : Nat) (o : Ck), j ≤ n ∧ i = .int .i64 (j : Int) ∧ zfh zbh (fun c => zbz l c fin) (js.drop j) o = r ∧ Bv w wr s fin R o) (fun i _ => n - (intOf i).toNat)
 case atStart => exact ⟨0, fin, Nat.zero_le _, rfl, HR.out.symm, D.out⟩
 case round =>
  obtain ⟨j, o, hj, rfl, hb, hD⟩ := hrel
  have HBe := Lib.hid hb
  replace D := Lib.hid hD
  clear hb hD
  by_cases hlt : j < n
  ·
   have i0 : (0 : Int) ≤ (j : Int) := by omega
   have i1 : (j : Int) < (n : Int) := by omega
   have u1 : (j : Int) + 1 < 10000 := by have := HN.out; omega
   have d0 : decide ((j : Int) < (n : Int)) = true := decide_eq_true i1
   have d0' : decide (j < n) = true := decide_eq_true hlt
   have HLT := Lib.hid hlt
   obtain ⟨b1, o1, rfl, _, x1⟩ := zdq (zad D.out.g h3) (by have := HL.out; omega)
   have X1 := Lib.hid x1
   have HLd : Hid (∀ W, Below wr.heap.size wr W → ldA W (.pointer (some ⟨b1, o1 + j * 33, none⟩)) 33 = some (cc (ckAt js j)) ∧ W.cell? ⟨b1, o1 + j * 33, none⟩ = some (.int .u64 ((ckAt js j).epoch.toNat : Int))) := fun W g => ⟨zgi (zbu g X1.out) (by have := HL.out; have := HLT.out; omega), yeq (zbu g X1.out) (by have := HL.out; have := HLT.out; omega)⟩
   have HSt := Lib.hid (zmg (ok := (fun c => zbz l c fin)) (js := js) (j := j) (by rw [HL.out]; exact hlt) o)
   generalize ckAt js j = C at *
   have HBh' := Lib.hid (HBh.out C)
   have HBt' := Lib.hid (HBt.out o C)
   generalize zbz l C fin = a at *
   generalize betC zbh o C = b at *
   have y1 := (HLd.out wr (Below.refl _ _)).1
   have z0 := (zai D.out.t).2.1
   have z1 := (ck_v D.out.f).a
   clear x1 hlt
   go_wp2_with fail
   have L0 := fun p : Wd wr.drew => zbb y1 (by decide) p
   have L1 := fun p : Wd wr.drew => zbb z0 (by decide) p
   have L2 := fun p : Wd wr.drew => zbb z1 (by decide) p
   clear y1 z0 z1
   refine zaj [6] (by kernel_rfl) (by kernel_rfl) (by kernel_rfl) ?_
   repeat (first | (refine zae rfl rfl _ zaf ?_; (first | go_big_quiet_step (fail) | quiet_step (fail)); refine wpQuiet_nil ?_) | refine zag rfl ?_)
   refine zan rfl rfl rfl ze7 #[.agg (tr ⟨s⟩), .agg (cc C), .agg (cc fin)] rfl ?_
   refine (HBh'.out _ (zah D.out.g 1)).mono ?_
   rintro e u ⟨rfl, g⟩
   refine ⟨_, rfl, g, ?_⟩
   simp only [Act.put, List.setIfInBounds_toArray, List.set_cons_zero, List.set_cons_succ]
   have G1 : Hid (Below wr.heap.size wr u) := zab (zah (Below.refl _ _) 1) g
   clear g
   repeat (first | (refine zae rfl rfl _ zaf ?_; (first | go_big_quiet_step (fail) | quiet_step (fail)); refine wpQuiet_nil ?_) | refine zag rfl ?_)
   refine za3 ?_
   clear L0 L1 L2
   replace D := Lib.hid (D.out.keep G1.out)
   have y1 := (HLd.out u G1.out).1
   have z1 := (ck_v D.out.o).a
   go_wp2_with fail
   have L0 := fun p : Wd u.drew => zbb y1 (by decide) p
   have L1 := fun p : Wd u.drew => zbb z1 (by decide) p
   clear y1 z1
   refine zaj [5] (by kernel_rfl) (by kernel_rfl) (by kernel_rfl) ?_
   repeat (first | (refine zae rfl rfl _ zaf ?_; (first | go_big_quiet_step (fail) | quiet_step (fail)); refine wpQuiet_nil ?_) | refine zag rfl ?_)
   refine zan rfl rfl rfl ze8 #[.agg (cc o), .agg (cc C)] rfl ?_
   refine (HBt'.out _).mono ?_
   rintro e u2 ⟨rfl, g⟩
   refine ⟨_, rfl, g, ?_⟩
   simp only [Act.put, List.setIfInBounds_toArray, List.set_cons_zero, List.set_cons_succ]
   have G2 : Hid (Below u.heap.size u u2) := zab (zah (Below.refl _ _) 1) g
   clear g
   repeat (first | (refine zae rfl rfl _ zaf ?_; (first | go_big_quiet_step (fail) | quiet_step (fail)); refine wpQuiet_nil ?_) | refine zag rfl ?_)
   refine za3 ?_
   clear L0 L1
   replace D := Lib.hid (D.out.keep G2.out)
   have G3 : Hid (Below wr.heap.size wr u2) := zab G1.out G2.out
   clear G1 G2
   have y1 := (HLd.out u2 G3.out).1
   have z1 := zau D.out.o (zax _)
   cases a <;> cases b
   case true.true =>
    go_wp2_with fail
    go_roundw
    case rel => exact ⟨j + 1, C, HLT.out, by go_num, by rw [← HBe.out, HSt.out]; rfl, D.out.put C⟩
    case measure => simp [intOf]; have := HLT.out; omega
   all_goals (
    go_wp2_with fail
    go_roundw
    case rel => exact ⟨j + 1, o, HLT.out, by go_num, by rw [← HBe.out, HSt.out]; rfl, D.out⟩
    case measure => simp [intOf]; have := HLT.out; omega)
  ·
   obtain rfl : j = n := by omega
   have d0 : decide ((j : Int) < (j : Int)) = false := decide_eq_false (Int.lt_irrefl _)
   have d0' : decide (j < j) = false := decide_eq_false (Nat.lt_irrefl _)
   have hF : Hid (o = r) := by
    show o = r
    rw [← HBe.out, List.drop_eq_nil_of_le (by rw [HL.out]; exact Nat.le_refl _)]; rfl
   have y1 := (ck_v D.out.o).a
   have z1 := zau D.out.r (zax _)
   clear hlt
   go_wp2_with fail
   exact bodyPost_ret (zao Tryz.isAgg36 Tryz.sizeOf36 _ 6 rfl _ _ _ _ rfl (zar (zgz D.out.r) (zax _))) rfl ⟨by rw [hF.out], zas D.out.g (by omega)⟩
theorem z7q (s : SlV) (v : Value) (l : List Nd) (js : List Ck) (fin : Ck) (w : World) (h : SlE Ene w (sv s) l) (h3 : SlE Ecc w v js) (hn : l.length ≤ 1000) (hj : js.length ≤ 1000) :
  Calls Tryz.prog 33 #[.agg (tr ⟨s⟩), v, .agg (cc fin)] w fun e w' => e = .returned (.agg (cc (zh5 l js fin))) ∧ Below w.heap.size w w' := by
 have k := h3
 obtain ⟨p, cp, rfl, _⟩ := zal h3
 exact zxe s p _ cp l js fin w h k rfl hn hj
theorem ygo (s : SlV) (l : List Nd) (i : Int) (w : World) (h : SlE Ene w (sv s) l) (hn : l.length ≤ 1000) :
  Calls Tryz.prog 115 #[.agg (tr ⟨s⟩), .int .i64 i] w (IntsIs (zhu l i) w) := by
 have HP := Lib.hid (fun W (g : Below w.heap.size w W) => yce s l i W (zad g h) hn)
 have HL := Lib.hid (zbk h)
 obtain ⟨p, n, cp⟩ := s
 dsimp only at HL
 obtain ⟨a, ha⟩ : ∃ a, a = isT l i := ⟨_, rfl⟩
 rw [← ha] at HP
 obtain ⟨W0, hW0⟩ : ∃ W0, W0 = w.alloc (.cells (tr ⟨⟨p, n, cp⟩⟩) 24) := ⟨_, rfl⟩
 have HB : Hid (Below w.heap.size w W0) := by rw [hW0]; exact below1
 have M0 : Hid (W0.heap[w.heap.size]? = some (.cells (tr ⟨⟨p, n, cp⟩⟩) 24 (0, 0))) := by rw [hW0]; exact heap_alloc_last w _
 have HS := Lib.hid h
 have HW := Lib.hid hW0
 have HA := Lib.hid ha
 clear hW0 h ha hn
 cases a
 ·
  have HE : Hid (zhu l i = []) := zti HA.out.symm
  go_enter Tryz.func115, Tryz.ntmps115
  go_wp2_with fail
  rw [← HW.out]
  refine (HP.out W0 HB.out).mono ?_
  rintro e w1 ⟨rfl, g1⟩
  have G1 := Lib.hid (zab HB.out g1)
  obtain ⟨z0, z1, zl⟩ := zai (zac g1 M0.out)
  dsimp only at z0
  rw [za0] at z0
  clear g1
  go_wp2_with fail
  refine wp_loop_rounds 1 ?_
  rw [rounds_succ]
  by_cases hz : 0 < n
  ·
   have t0 : decide ((0 : Int) < (n : Int)) = true := by rw [decide_eq_true_iff]; omega
   have t0' : decide (0 < n) = true := decide_eq_true hz
   clear hz
   go_wp2_with fail
   go_ret
   exact ⟨_, rfl, by rw [HE.out]; exact za8 _ _ _, G1.out⟩
  ·
   obtain rfl : n = 0 := by omega
   clear hz
   go_wp2_with fail
   go_ret
   exact ⟨_, rfl, by rw [HE.out]; exact za8 _ _ _, G1.out⟩
 ·
  obtain ⟨hm, hi0, hi1⟩ := zb2.1 HA.out.symm
  obtain ⟨i', rfl⟩ : ∃ i' : Nat, i = i' := ⟨i.toNat, by omega⟩
  have HE : Hid (zhu l (i' : Int) = zcq l i' n) := by show _ = _; rw [znb hm (by omega), HL.out]
  have HN : Hid (n ≤ 12) := by show n ≤ 12; have := hm.le; have := HL.out; omega
  obtain ⟨b1, o1, rfl, q1, x1⟩ := zcj HS.out hm.pos
  clear hi0 hi1 HA hm
  go_enter Tryz.func115, Tryz.ntmps115
  go_wp2_with fail
  rw [← HW.out]
  refine (HP.out W0 HB.out).mono ?_
  rintro e w1 ⟨rfl, g1⟩
  have G1 := Lib.hid (zab HB.out g1)
  have M1 := Lib.hid (zac g1 M0.out)
  have X1 := Lib.hid (zbu G1.out x1)
  clear g1 x1 q1
  go_wp2_with fail
  go_loopw [5, 7] (fun v i wr => ∃ j : Nat, j ≤ n ∧ i = .int .i64 (j : Int) ∧ OwnE Eint wr w1.heap.size v (zcq l i' j) ∧ Below w1.heap.size w1 wr) (fun _ i _ => n - (intOf i).toNat)
  case atStart => exact ⟨0, Nat.zero_le _, rfl, za8 _ _ _, Below.refl _ _⟩
  case round =>
   obtain ⟨j, hj, rfl, hown, hb⟩ := hrel
   have HO := Lib.hid hown
   have HBB := Lib.hid hb
   obtain ⟨z0, z1, zl⟩ := zai (zac hb M1.out)
   dsimp only at z0
   rw [za0] at z0
   clear hown hb
   by_cases hlt : j < n
   ·
    have i0 : (0 : Int) ≤ (j : Int) := by omega
    have i1 : (j : Int) < (n : Int) := by omega
    have u1 : (j : Int) + 1 < 10000 := by have := HN.out; omega
    have y1 := zga (zbu HBB.out X1.out) (i := j) (by have := HL.out; omega)
    obtain ⟨x, hx⟩ : ∃ x, x = (nd l j).parent := ⟨_, rfl⟩
    rw [← hx] at y1
    have HXx := Lib.hid hx
    clear hx
    by_cases he : x = (i' : Int)
    ·
     have t1 : (x == (i' : Int)) = true := by simpa using he
     have HE2 : Hid (zcq l i' (j + 1) = zcq l i' j ++ [(j : Int)]) := zpy (by rw [← HXx.out]; exact he)
     have HLn := Lib.hid (zpx l i' j)
     clear he
     go_wp2_with (at_builtin; refine za1 Kint _ rfl (.tmp 29) (.tmp 31) rfl w1.heap.size _ (zcq l i' j) rfl (zaw HO.out _) _ [(j : Int)] rfl (zdu _ [(j : Int)] 1 _ _ _ rfl (by simp) rfl) (by have := HLn.out; have := HN.out; simp; omega) (by have := HBB.out.size; simp; omega) ?_; intro v2 w2 ho2 hg2)
     go_roundw
     case rel => exact ⟨j + 1, by omega, by go_num, by rw [HE2.out]; exact ho2, (zab HBB.out below1).trans (hg2.own (zaw HO.out _) (by have := HBB.out.size; simp; omega))⟩
     case measure => simp [intOf]; omega
    ·
     have t1 : (x == (i' : Int)) = false := by simpa using he
     have HE2 : Hid (zcq l i' (j + 1) = zcq l i' j) := ztj (by rw [← HXx.out]; exact he)
     clear he
     go_wp2_with fail
     go_roundw
     case rel => exact ⟨j + 1, by omega, by go_num, by rw [HE2.out]; exact HO.out, HBB.out⟩
     case measure => simp [intOf]; omega
   ·
    obtain rfl : j = n := by omega
    clear hlt
    go_wp2_with fail
    go_ret
    exact ⟨_, rfl, by rw [HE.out]; exact zbi HO.out G1.out.size, zab G1.out HBB.out⟩
theorem zxc (p : Option Addr) (n cp : Nat) (l : List Nd) (just : Nat) (fin i : Int) (w : World) (h : SlE Ene w (.slice p n cp) l) (hl : l.length = n) (hn : l.length ≤ 1000) :
  Calls Tryz.prog 75 #[.agg (tr ⟨⟨p, n, cp⟩⟩), .int .u64 (just : Int), .int .i64 fin, .int .i64 i] w fun e w' => e = .returned (.bool (zfm l just fin i)) ∧ Below w.heap.size w w' := by
 have V : Hid (Tw w (w.alloc (.cells (tr ⟨⟨p, n, cp⟩⟩) 24)) w.heap.size ⟨p, n, cp⟩ l) := zz0 h
 obtain ⟨W0, hW0⟩ : ∃ W0, W0 = w.alloc (.cells (tr ⟨⟨p, n, cp⟩⟩) 24) := ⟨_, rfl⟩
 rw [← hW0] at V
 have A := V
 have HW := Lib.hid hW0
 have HL := Lib.hid hl
 have HAb := Lib.hid (fun W (g : SlE Ene W (.slice p n cp) l) => zgc ⟨p, n, cp⟩ l fin i W g hn)
 have HKs := Lib.hid (fun W (g : SlE Ene W (.slice p n cp) l) => (ygo ⟨p, n, cp⟩ l i W g hn).mono fun _ _ h => h.list)
 by_cases ha : zbp l fin i = true
 case neg =>
  have ha' : zbp l fin i = false := by simpa using ha
  rw [ya4 ha']
  rw [ha'] at HAb
  clear V hW0 h hl hn ha ha'
  go_enter Tryz.func75, Tryz.ntmps75
  go_wp2_with fail
  rw [← HW.out]
  refine (HAb.out _ A.out.s).mono ?_
  rintro e w1 ⟨rfl, g⟩
  replace A := Lib.hid (A.out.keep g)
  clear g
  go_wp2_with fail
  go_ret
  exact ⟨rfl, A.out.g⟩
 obtain ⟨hm, _, _, h0, h1, _⟩ := z3p ha
 obtain ⟨i, rfl⟩ : ∃ i' : Nat, i = i' := ⟨i.toNat, by omega⟩
 have hi : i < l.length := by omega
 rw [ya3 hm hi ha]
 rw [ha] at HAb
 rw [show zhu l (i : Int) = (znc l i).map (fun k : Nat => (k : Int)) from by unfold zhu; rw [znd hm hi]] at HKs
 obtain ⟨m, hmm⟩ : ∃ m, m = (znc l i).length := ⟨_, rfl⟩
 obtain ⟨b1, o1, rfl, r1', x1⟩ := zcj A.out.s (by omega)
 have yj := ybk x1 hi
 have HKm : Hid (((znc l i).map (fun k : Nat => (k : Int))).length = m) := by show _ = _; rw [List.length_map, hmm]
 have hdk : decide (znc l i = []) = decide (m = 0) := by
  rw [hmm, Bool.eq_iff_iff, decide_eq_true_iff, decide_eq_true_iff]
  exact List.length_eq_zero_iff.symm
 rw [hdk]
 obtain ⟨r, hr⟩ : ∃ r, r = (decide (m = 0) && decide (just ≤ (nd l i).just.toNat)) := ⟨_, rfl⟩
 rw [← hr]
 generalize (znc l i).map (fun k : Nat => (k : Int)) = K at *
 generalize (nd l i).just.toNat = J at *
 have i0 : (0 : Int) ≤ (i : Int) := by omega
 have i1 : (i : Int) < (n : Int) := by omega
 have YJ := Lib.hid yj
 have HR := Lib.hid hr
 clear V hW0 h hl hn ha hm h0 h1 hi hmm hdk r1' x1 yj hr
 go_enter Tryz.func75, Tryz.ntmps75
 go_wp2_with fail
 rw [← HW.out]
 have yj := YJ.out
 refine (HAb.out _ A.out.s).mono ?_
 rintro e w1 ⟨rfl, g⟩
 replace A := Lib.hid (A.out.keep g)
 replace yj := (g.cell (p := ⟨b1, o1 + i * 35 + 34, none⟩) (block_lt_of_cell yj)).trans yj
 clear g
 have z1 := A.out.z1
 go_wp2_with fail
 refine (HKs.out _ A.out.s).mono ?_
 rintro e w2 ⟨v, rfl, hv, g⟩
 obtain ⟨pv, cv, rfl⟩ := zxl hv HKm.out
 replace A := Lib.hid (A.out.keep g)
 replace yj := (g.cell (p := ⟨b1, o1 + i * 35 + 34, none⟩) (block_lt_of_cell yj)).trans yj
 clear g hv z1
 have z1 := A.out.z1
 have z0 := A.out.z0
 rw [za0] at z0
 by_cases hm0 : m = 0
 ·
  subst hm0
  by_cases hJ : just ≤ J
  ·
   have d0 : decide ((just : Int) ≤ (J : Int)) = true := decide_eq_true (by omega)
   have d1 : decide (just ≤ J) = true := decide_eq_true hJ
   have hR : Hid (r = decide (just ≤ J)) := by show _ = _; rw [HR.out]; rfl
   rw [d1] at hR
   clear hJ
   go_wp2_with fail
   go_ret
   exact ⟨by rw [hR.out]; first | done | rfl, A.out.g⟩
  ·
   have d0 : decide ((just : Int) ≤ (J : Int)) = false := decide_eq_false (by omega)
   have d1 : decide (just ≤ J) = false := decide_eq_false hJ
   have hR : Hid (r = decide (just ≤ J)) := by show _ = _; rw [HR.out]; rfl
   rw [d1] at hR
   clear hJ
   go_wp2_with fail
   go_ret
   exact ⟨by rw [hR.out]; first | done | rfl, A.out.g⟩
 ·
  have d0 : ((m : Int) == 0) = false := by rw [beq_eq_false_iff_ne]; omega
  have hR : Hid (r = false) := by show _ = _; rw [HR.out, decide_eq_false hm0]; rfl
  clear hm0
  go_wp2_with fail
  go_ret
  exact ⟨by rw [hR.out]; first | done | rfl, A.out.g⟩
theorem z7m (s : SlV) (l : List Nd) (just : Nat) (fin i : Int) (w : World) (h : SlE Ene w (sv s) l) (hn : l.length ≤ 1000) :
  Calls Tryz.prog 75 #[.agg (tr ⟨s⟩), .int .u64 (just : Int), .int .i64 fin, .int .i64 i] w fun e w' => e = .returned (.bool (zfm l just fin i)) ∧ Below w.heap.size w w' := by
 have hl := zbk h
 obtain ⟨p, n, cp⟩ := s
 exact zxc p n cp l just fin i w h hl hn
theorem zr0 (p : Option Addr) (n cp : Nat) (l : List Nd) (just : Nat) (fin : Int) (w : World) (h : SlE Ene w (.slice p n cp) l) (hl : l.length = n) (hn : n ≤ 1000) (hm : ¬ MayT l) :
  Calls Tryz.prog 35 #[.agg (tr ⟨⟨p, n, cp⟩⟩), .int .u64 (just : Int), .int .i64 fin] w (BoosIs [] w) := by
 have V : Hid (Tw w (w.alloc (.cells (tr ⟨⟨p, n, cp⟩⟩) 24)) w.heap.size ⟨p, n, cp⟩ l) := zz0 h
 obtain ⟨W0, hW0⟩ : ∃ W0, W0 = w.alloc (.cells (tr ⟨⟨p, n, cp⟩⟩) 24) := ⟨_, rfl⟩
 rw [← hW0] at V
 have A := V
 have HW := Lib.hid hW0
 have HM := Lib.hid (fun W (g : SlE Ene W (.slice p n cp) l) => zev ⟨p, n, cp⟩ l W g (by omega))
 rw [decide_eq_false hm] at HM
 clear V hW0 h hl hn hm
 go_enter Tryz.func35, Tryz.ntmps35
 go_wp2_with fail
 rw [← HW.out]
 refine (HM.out _ A.out.s).mono ?_
 rintro e w1 ⟨rfl, g⟩
 replace A := Lib.hid (A.out.keep g)
 clear g
 go_wp2_with fail
 go_loopw [7, 9] (fun v i wr => v = .slice none 0 0 ∧ i = .int .i64 0 ∧ Below w1.heap.size w1 wr) (fun _ _ _ => 0)
 case atStart => exact ⟨rfl, rfl, Below.refl _ _⟩
 case round =>
  obtain ⟨rfl, rfl, hb⟩ := hrel
  have A2 := Lib.hid (A.out.keep hb)
  have z0 := A2.out.z0
  rw [za0] at z0
  clear hb
  by_cases h0 : 0 < n
  ·
   have d0 : decide ((0 : Int) < (n : Int)) = true := decide_eq_true (by omega)
   have d1 : decide (0 < n) = true := decide_eq_true h0
   clear h0
   go_wp2_with fail
   go_ret
   exact ⟨_, rfl, za8 _ _ _, A2.out.g⟩
  ·
   have d0 : decide ((0 : Int) < (n : Int)) = false := decide_eq_false (by omega)
   have d1 : decide (0 < n) = false := decide_eq_false h0
   clear h0
   go_wp2_with fail
   go_ret
   exact ⟨_, rfl, za8 _ _ _, A2.out.g⟩
theorem zo1 (p : Option Addr) (n cp : Nat) (l : List Nd) (just : Nat) (fin : Int) (w : World) (h : SlE Ene w (.slice p n cp) l) (hl : l.length = n) (hm : MayT l) :
  Calls Tryz.prog 35 #[.agg (tr ⟨⟨p, n, cp⟩⟩), .int .u64 (just : Int), .int .i64 fin] w (BoosIs (zdp (zkf l just fin) n) w) := by
 have V : Hid (Tw w (w.alloc (.cells (tr ⟨⟨p, n, cp⟩⟩) 24)) w.heap.size ⟨p, n, cp⟩ l) := zz0 h
 obtain ⟨W0, hW0⟩ : ∃ W0, W0 = w.alloc (.cells (tr ⟨⟨p, n, cp⟩⟩) 24) := ⟨_, rfl⟩
 rw [← hW0] at V
 have A := V
 have HW := Lib.hid hW0
 have HM := Lib.hid (fun W (g : SlE Ene W (.slice p n cp) l) => zev ⟨p, n, cp⟩ l W g (by have := hm.le; omega))
 rw [decide_eq_true hm] at HM
 have HAb : Hid (∀ W, SlE Ene W (.slice p n cp) l → ∀ i k : Nat, i < n → k < n → Calls Tryz.prog 38 #[.agg (tr ⟨⟨p, n, cp⟩⟩), .int .i64 (i : Int), .int .i64 (k : Int)] W fun e w' => e = .returned (.bool (zat l i k)) ∧ Below W.heap.size W w') := fun W g i k hi hk => by
  have := zgc ⟨p, n, cp⟩ l (i : Int) (k : Int) W g (by have := hm.le; omega)
  rwa [zdn hm (by omega) (by omega)] at this
 have HLf := Lib.hid (fun W (g : SlE Ene W (.slice p n cp) l) (k : Nat) => z7m ⟨p, n, cp⟩ l just fin (k : Int) W g (by have := hm.le; omega))
 have HL := Lib.hid hl
 have HN : Hid (n ≤ 12) := by show n ≤ 12; have := hm.le; omega
 clear V hW0 h hl hm
 go_enter Tryz.func35, Tryz.ntmps35
 go_wp2_with fail
 rw [← HW.out]
 refine (HM.out _ A.out.s).mono ?_
 rintro e w1 ⟨rfl, g⟩
 replace A := Lib.hid (A.out.keep g)
 clear g
 go_wp2_with fail
 go_loopw [7, 9] (fun v i wr => ∃ j : Nat, j ≤ n ∧ i = .int .i64 (j : Int) ∧ OwnE Eboo wr w1.heap.size v (zdp (zkf l just fin) j) ∧ Below w1.heap.size w1 wr) (fun _ i _ => n - (intOf i).toNat)
 case atStart => exact ⟨0, Nat.zero_le _, rfl, za8 _ _ _, Below.refl _ _⟩
 case round =>
  obtain ⟨i, hi, rfl, hown, hb⟩ := hrel
  obtain ⟨wo, rfl⟩ : ∃ wo : World, wo = wr := ⟨_, rfl⟩
  have HO := Lib.hid hown
  have HBB := Lib.hid hb
  have A1 := Lib.hid (A.out.keep hb)
  have z0 := A1.out.z0
  rw [za0] at z0
  obtain ⟨pv, cv, rfl⟩ := zdh hown (zgs _ i)
  clear hown hb
  by_cases hlt : i < n
  ·
   have d0 : decide ((i : Int) < (n : Int)) = true := decide_eq_true (by omega)
   have d1 : decide (i < n) = true := decide_eq_true hlt
   have u1 : (i : Int) + 1 < 10000 := by have := HN.out; omega
   have HLT := Lib.hid hlt
   have HLn := Lib.hid (zgs (zkf l just fin) i)
   clear hlt
   go_wp2_with fail
   go_loopw [10, 11] (fun s k wr => ∃ j : Nat, j ≤ n ∧ k = .int .i64 (j : Int) ∧ s = .bool (anyL l just fin i j) ∧ Below wo.heap.size wo wr) (fun _ k _ => n - (intOf k).toNat)
   case atStart => exact ⟨0, Nat.zero_le _, rfl, rfl, Below.refl _ _⟩
   case round =>
    obtain ⟨j, hj, rfl, rfl, hb⟩ := hrel
    have HI := Lib.hid hb
    have A2 := Lib.hid (A1.out.keep hb)
    clear hb z0
    have z1 := A2.out.z1
    have z0 := A2.out.z0
    rw [za0] at z0
    by_cases hjt : j < n
    ·
     have e0 : decide ((j : Int) < (n : Int)) = true := decide_eq_true (by omega)
     have e1 : decide (j < n) = true := decide_eq_true hjt
     have v1 : (j : Int) + 1 < 10000 := by have := HN.out; omega
     have HJT := Lib.hid hjt
     have HC := Lib.hid (HAb.out wr A2.out.s i j HLT.out hjt)
     obtain ⟨r, hr⟩ : ∃ r, r = zat l i j := ⟨_, rfl⟩
     obtain ⟨f, hf⟩ : ∃ f, f = zfm l just fin (j : Int) := ⟨_, rfl⟩
     obtain ⟨x, hx⟩ : ∃ x, x = anyL l just fin i j := ⟨_, rfl⟩
     have HE : Hid (anyL l just fin i (j + 1) = (x || (r && f))) := by rw [hr, hf, hx]; exact z3v
     rw [← hr] at HC
     rw [← hx]
     have HF := Lib.hid (fun W (g : SlE Ene W (.slice p n cp) l) => HLf.out W g j)
     rw [← hf] at HF
     clear hjt hr hf hx
     go_wp2_with fail
     refine HC.out.mono ?_
     rintro e w3 ⟨rfl, g3⟩
     replace A2 := Lib.hid (A2.out.keep g3)
     replace HI := Lib.hid (zab HI.out g3)
     clear g3 z0 z1
     have z1 := A2.out.z1
     go_wp2_with fail
     refine (HF.out _ A2.out.s).mono ?_
     rintro e w4 ⟨rfl, g3⟩
     replace HI := Lib.hid (zab HI.out g3)
     clear g3 z1
     cases x <;> cases r <;> cases f <;> (
      go_wp2_with fail
      go_roundw
      case rel => exact ⟨j + 1, HJT.out, by go_num, by rw [HE.out]; rfl, HI.out⟩
      case measure => simp [intOf]; have := HJT.out; omega)
    ·
     obtain rfl : j = n := by omega
     have e0 : decide ((j : Int) < (j : Int)) = false := decide_eq_false (Int.lt_irrefl _)
     have HE : Hid (anyL l just fin i j = zkf l just fin i) := by show _ = _; rw [← HL.out]; exact z9e
     have O3 := Lib.hid (za5 HI.out HO.out)
     obtain ⟨x, hx⟩ : ∃ x, x = anyL l just fin i j := ⟨_, rfl⟩
     rw [← hx] at HE
     rw [← hx]
     clear hjt hx
     go_wp2_with (at_builtin; refine za1 Kboo _ rfl (.tmp 49) (.tmp 51) rfl w1.heap.size _ (zdp (zkf l just fin) i) rfl (zaw O3.out _) _ [x] rfl (zdu _ [x] 1 _ _ _ rfl (by simp) rfl) (by have := HLn.out; have := HN.out; have := HLT.out; simp; omega) (by have := HBB.out.size; have := HI.out.size; simp; omega) ?_; intro v2 w4 ho4 hg4)
     go_roundw
     case rel => exact ⟨i + 1, HLT.out, by go_num, by rw [z0b, ← HE.out]; exact ho4, (zab HBB.out (zab HI.out below1)).trans (hg4.own (zaw O3.out _) (by have := HBB.out.size; have := HI.out.size; simp; omega))⟩
     case measure => simp [intOf]; have := HLT.out; omega
  ·
   obtain rfl : i = n := by omega
   have d0 : decide ((i : Int) < (i : Int)) = false := decide_eq_false (Int.lt_irrefl _)
   clear hlt
   go_wp2_with fail
   go_ret
   exact ⟨_, rfl, zbi HO.out A.out.g.size, zab A.out.g HBB.out⟩
theorem z2b (s : SlV) (l : List Nd) (just : Nat) (fin : Int) (w : World) (h : SlE Ene w (sv s) l) (hn : l.length ≤ 1000) :
  Calls Tryz.prog 35 #[.agg (tr ⟨s⟩), .int .u64 (just : Int), .int .i64 fin] w (BoosIs (zp1 l just fin) w) := by
 have hl := zbk h
 obtain ⟨p, n, cp⟩ := s
 dsimp only at hl
 by_cases hm : MayT l
 ·
  rw [zng hm, hl]
  exact zo1 p n cp l just fin w h hl hm
 ·
  rw [zyy hm]
  exact zr0 p n cp l just fin w h hl (by omega) hm
theorem zxb (p : Option Addr) (n cp : Nat) (l : List Nd) (r : Rt) (fin : Int) (w : World) (h : SlE Ene w (.slice p n cp) l) (hl : l.length = n) (hn : l.length ≤ 1000) :
  Calls Tryz.prog 37 #[.agg (tr ⟨⟨p, n, cp⟩⟩), .agg (rc r), .int .i64 fin] w fun e w' => e = .returned (.int .i64 (zm5 l r fin)) ∧ Below w.heap.size w w' := by
 have HMy := Lib.hid (fun W (g : SlE Ene W (.slice p n cp) l) => zev ⟨p, n, cp⟩ l W g hn)
 have HFd := Lib.hid (fun W (g : SlE Ene W (.slice p n cp) l) => zg6 ⟨p, n, cp⟩ l r W g hn)
 have HAb := Lib.hid (fun W (g : SlE Ene W (.slice p n cp) l) => zgc ⟨p, n, cp⟩ l fin (zaz l r) W g hn)
 obtain ⟨W0, hW0⟩ : ∃ W0, W0 = (w.alloc (.cells (tr ⟨⟨p, n, cp⟩⟩) 24)).alloc (.cells (rc r) 34) := ⟨_, rfl⟩
 have A : Hid (Tw w W0 w.heap.size ⟨p, n, cp⟩ l) := by rw [hW0]; exact (zz0 h).keep below1
 have R0 : Hid (ldA W0 (.pointer (some ⟨w.heap.size + 1, 0, none⟩)) 32 = some (rc r)) := by
  rw [hW0]
  have := zar (heap_alloc_last (w.alloc (.cells (tr ⟨⟨p, n, cp⟩⟩) 24)) (.cells (rc r) 34 (0, 0))) (zay r)
  show ldA _ _ _ = _
  simpa using this
 have HW := Lib.hid hW0
 have HL := Lib.hid hl
 obtain ⟨x, hx⟩ : ∃ x, x = zm5 l r fin := ⟨_, rfl⟩
 rw [← hx]
 have HX := Lib.hid hx
 have HNo : Hid (isT l fin = false → x = -1) := fun e => by rw [HX.out]; unfold zm5; rw [if_neg (by rw [e]; exact Bool.false_ne_true)]
 clear hW0 h hl hn hx
 go_enter Tryz.func37, Tryz.ntmps37
 go_wp2_with fail
 rw [← HW.out]
 refine (HMy.out _ A.out.s).mono ?_
 rintro e w1 ⟨rfl, g⟩
 replace A := Lib.hid (A.out.keep g)
 replace R0 := Lib.hid (keep g R0.out)
 clear g
 have z1 := A.out.z1
 have z0 := A.out.z0
 rw [za0] at z0
 have r0 := R0.out
 by_cases hm : MayT l
 case neg =>
  have hX : Hid (x = -1) := HNo.out (by rw [← Bool.not_eq_true, zb2]; exact fun h => hm h.1)
  rw [decide_eq_false hm]
  clear hm
  go_wp2_with fail
  go_ret
  exact ⟨by rw [hX.out]; first | done | rfl, A.out.g⟩
 rw [decide_eq_true hm]
 by_cases h0 : fin < 0
 ·
  have d0 : decide (fin < 0) = true := decide_eq_true h0
  have hX : Hid (x = -1) := HNo.out (by rw [← Bool.not_eq_true, zb2]; exact fun h => by have := h.2.1; omega)
  clear hm h0
  go_wp2_with fail
  go_ret
  exact ⟨by rw [hX.out]; first | done | rfl, A.out.g⟩
 have d0 : decide (fin < 0) = false := decide_eq_false h0
 by_cases h1 : (n : Int) ≤ fin
 ·
  have d1 : decide ((n : Int) ≤ fin) = true := decide_eq_true h1
  have hX : Hid (x = -1) := HNo.out (by rw [← Bool.not_eq_true, zb2]; exact fun h => by have := h.2.2; have := HL.out; omega)
  clear hm h0 h1
  go_wp2_with fail
  go_ret
  exact ⟨by rw [hX.out]; first | done | rfl, A.out.g⟩
 have d1 : decide ((n : Int) ≤ fin) = false := decide_eq_false h1
 have HY : Hid (x = if zbp l fin (zaz l r) = true then zaz l r else fin) := by show _ = _; rw [HX.out]; unfold zm5; rw [if_pos (zb2.2 ⟨hm, by omega, by have := HL.out; omega⟩)]
 clear hm h0 h1
 generalize zbp l fin (zaz l r) = a at *
 generalize zaz l r = k at *
 go_wp2_with fail
 refine (HFd.out _ A.out.s).mono ?_
 rintro e w2 ⟨rfl, g⟩
 replace A := Lib.hid (A.out.keep g)
 clear g z0 z1 r0
 have z1 := A.out.z1
 go_wp2_with fail
 refine (HAb.out _ A.out.s).mono ?_
 rintro e w3 ⟨rfl, g⟩
 replace A := Lib.hid (A.out.keep g)
 clear g z1
 cases a
 ·
  have hX : Hid (x = fin) := HY.out
  go_wp2_with fail
  go_ret
  exact ⟨by rw [hX.out]; first | done | rfl, A.out.g⟩
 ·
  have hX : Hid (x = k) := HY.out
  go_wp2_with fail
  go_ret
  exact ⟨by rw [hX.out]; first | done | rfl, A.out.g⟩
theorem z7l (s : SlV) (l : List Nd) (r : Rt) (fin : Int) (w : World) (h : SlE Ene w (sv s) l) (hn : l.length ≤ 1000) :
  Calls Tryz.prog 37 #[.agg (tr ⟨s⟩), .agg (rc r), .int .i64 fin] w fun e w' => e = .returned (.int .i64 (zm5 l r fin)) ∧ Below w.heap.size w w' := by
 have hl := zbk h
 obtain ⟨p, n, cp⟩ := s
 exact zxb p n cp l r fin w h hl hn
theorem zlb : ∀ args w, (callFunc 37 args).run Tryz.prog w = .ok (.enter 37 args) w := za7 Tryz.func37 (by kernel_rfl) (by kernel_rfl)
end Go.Proofs.YtkalofboioffiaaGreat
