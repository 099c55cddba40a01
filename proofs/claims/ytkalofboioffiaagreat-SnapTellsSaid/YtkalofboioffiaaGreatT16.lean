import Derived.Test.YtkalofboioffiaaGreatT15
namespace Go.Proofs.YtkalofboioffiaaGreat
open Go.RowKit
set_option maxRecDepth 200000
set_option maxHeartbeats 64000000
theorem z01 {l : List Nd} {ls : List Lk} {bal : List UInt64} {js : List Ck} : (zb1 l ls bal js).length ≤ js.length := by
 unfold zb1
 split
 ·
  exact List.length_filter_le _ _
 ·
  exact Nat.zero_le _
theorem Bv.drewN {w W : World} {s : SlV} {fin o : Ck} {R : Nat} (h : Bv w W s fin R o) (k : Nat) : Bv w (W.drewN k) s fin R o := ⟨h.t, h.f, h.r, h.o, zah h.g k, h.R⟩
theorem z7s (s : SlV) (u vb vj : Value) (l : List Nd) (ls : List Lk) (bal : List UInt64) (js0 : List Ck) (fin : Ck) (w : World) (h : SlE Ene w (sv s) l) (h1 : SlE Elk w u ls) (h2 : SlE Enum w vb bal) (h3 : SlE Ecc w vj js0) (hn : l.length ≤ 1000) (hk : bal.length ≤ 1152921504606846976) (hmn : ls.length ≤ 1000) (hj : js0.length ≤ 1000) :
  Calls Tryz.prog 71 #[.agg (tr ⟨s⟩), u, vb, vj, .agg (cc fin)] w fun e w' => e = .returned (.agg (cc (znq l ls bal js0 fin))) ∧ Below w.heap.size w w' := by
 have HBh := Lib.hid (fun c W (g : Below w.heap.size w W) => zif s l c fin W (zad g h) hn)
 have HBt := Lib.hid (fun a b W => zn6 a b W)
 obtain ⟨r, hr⟩ : ∃ r, r = znq l ls bal js0 fin := ⟨_, rfl⟩
 rw [← hr]
 have HR := Lib.hid hr
 have HFi := Lib.hid (fun W (g : Below w.heap.size w W) => zxf s u vb vj l ls bal js0 W (zad g h) (zad g h1) (zad g h2) (zad g h3) hn hk hmn hj)
 have HJl : Hid ((zb1 l ls bal js0).length ≤ 1000) := by show _ ≤ _; exact Nat.le_trans z01 hj
 have HR2 : Hid (r = zfh zbh (okN l fin) (zb1 l ls bal js0) fin) := hr
 obtain ⟨js, hjs⟩ : ∃ js, js = zb1 l ls bal js0 := ⟨_, rfl⟩
 rw [← hjs] at HFi HJl HR2
 replace HR := HR2
 obtain ⟨W3, hW3⟩ : ∃ W3, W3 = ((w.alloc (.cells (tr ⟨s⟩) 24)).alloc (.cells (cc fin) 36)).alloc (.cells (cc zcc) 36) := ⟨_, rfl⟩
 obtain ⟨hB, k0, k1, k2, hz0⟩ := zf2 w _ _ _ _ _ _ W3 hW3
 have HW := Lib.hid hW3
 have y0 := (ck_v k1).a
 have D := Lib.hid (z34 (s := s) (fin := fin) hB k0 k1 k2)
 clear hW3 hB k0 k1 k2 hz0 hr hj HR2 hjs h1 h2 h3 hk hmn
 go_enter Tryz.func71, Tryz.ntmps71
 go_upto_region 1 with fail
 rw [← HW.out]
 go_upto_region 2 with fail
 obtain ⟨W0, hW0⟩ : ∃ W0, W0 = W3.alloc (.cells (cc fin) 36) := ⟨_, rfl⟩
 rw [← hW0]
 rw [← hW0] at D
 generalize W3.heap.size = R at *
 clear hW0 y0 HW
 have z0 := (zai D.out.t).2.1
 go_wp2_with fail
 refine (HFi.out _ D.out.g).mono ?_
 rintro e wf ⟨v, rfl, ho, g⟩
 replace D' := Lib.hid (D.out.keep g)
 have O := Lib.hid ho
 have HRB : Hid (R < W0.heap.size) := (Array.getElem?_eq_some_iff.1 D.out.o).1
 replace D := D'
 generalize W0.heap.size = B at *
 obtain ⟨n, hl⟩ : ∃ n, js.length = n := ⟨_, rfl⟩
 obtain ⟨p, cp, hv⟩ := zdh O.out hl
 subst hv
 have HL := Lib.hid hl
 have HN : Hid (n ≤ 1000) := by show n ≤ 1000; rw [← hl]; exact HJl.out
 clear ho g D' hl z0 HFi HJl
 go_wp2_with fail
 go_loopw [13] (fun i wr => ∃ (j : Nat) (o : Ck), j ≤ n ∧ i = .int .i64 (j : Int) ∧ zfh zbh (okN l fin) (js.drop j) o = r ∧ Bv w wr s fin R o ∧ OwnE Ecc wr B (.slice p n cp) js) (fun i _ => n - (intOf i).toNat)
 case atStart => exact ⟨0, fin, Nat.zero_le _, rfl, HR.out.symm, D.out, O.out⟩
 case round =>
  obtain ⟨j, o, hj, rfl, hb, hD, ho⟩ := hrel
  have HBe := Lib.hid hb
  replace D := Lib.hid hD
  have O := Lib.hid ho
  clear ho
  clear hb hD
  by_cases hlt : j < n
  ·
   have i0 : (0 : Int) ≤ (j : Int) := by omega
   have i1 : (j : Int) < (n : Int) := by omega
   have u1 : (j : Int) + 1 < 10000 := by have := HN.out; omega
   have d0 : decide ((j : Int) < (n : Int)) = true := decide_eq_true i1
   have d0' : decide (j < n) = true := decide_eq_true hlt
   have HLT := Lib.hid hlt
   obtain ⟨b1, o1, rfl, _, x1⟩ := zdq (za2 O.out) (by have := HL.out; omega)
   have X1 := Lib.hid x1
   have HLd : Hid (∀ W, Below wr.heap.size wr W → ldA W (.pointer (some ⟨b1, o1 + j * 33, none⟩)) 33 = some (cc (ckAt js j)) ∧ W.cell? ⟨b1, o1 + j * 33, none⟩ = some (.int .u64 ((ckAt js j).epoch.toNat : Int))) := fun W g => ⟨zgi (zbu g X1.out) (by have := HL.out; have := HLT.out; omega), yeq (zbu g X1.out) (by have := HL.out; have := HLT.out; omega)⟩
   have HSt := Lib.hid (zmg (ok := (okN l fin)) (js := js) (j := j) (by rw [HL.out]; exact hlt) o)
   generalize ckAt js j = C at *
   have HBh' := Lib.hid (HBh.out C)
   have HBt' := Lib.hid (HBt.out o C)
   obtain ⟨E, hE⟩ : ∃ E, E = decide (fin.epoch.toNat < C.epoch.toNat) := ⟨_, rfl⟩
   have HOK : Hid (okN l fin C = (zbz l C fin && E)) := by show _ = _; rw [hE]; rfl
   generalize zbz l C fin = a at *
   generalize betC zbh o C = b at *
   have y1 := (HLd.out wr (Below.refl _ _)).1
   have z0 := (zai D.out.t).2.1
   have z1 := (ck_v D.out.f).a
   clear x1 hlt
   go_wp2_with fail
   have L0 := fun p : Wd wr.drew => zbb y1 (by decide) p
   have L1 := fun p : Wd wr.drew => zbb z0 (by decide) p
   have L2 := fun p : Wd wr.drew => zbb z1 (by decide) p
   clear y1 z0 z1
   refine zaj [6] (by kernel_rfl) (by kernel_rfl) (by kernel_rfl) ?_
   repeat (first | (refine zae rfl rfl _ zaf ?_; (first | go_big_quiet_step (fail) | quiet_step (fail)); refine wpQuiet_nil ?_) | refine zag rfl ?_)
   refine zan rfl rfl rfl ze7 #[.agg (tr ⟨s⟩), .agg (cc C), .agg (cc fin)] rfl ?_
   refine (HBh'.out _ (zah D.out.g 1)).mono ?_
   rintro e u ⟨rfl, g⟩
   refine ⟨_, rfl, g, ?_⟩
   simp only [Act.put, List.setIfInBounds_toArray, List.set_cons_zero, List.set_cons_succ]
   have G1 : Hid (Below wr.heap.size wr u) := zab (zah (Below.refl _ _) 1) g
   clear g
   repeat (first | (refine zae rfl rfl _ zaf ?_; (first | go_big_quiet_step (fail) | quiet_step (fail)); refine wpQuiet_nil ?_) | refine zag rfl ?_)
   refine za3 ?_
   clear L0 L1 L2
   replace D := Lib.hid (D.out.keep G1.out)
   have y1 := (HLd.out u G1.out).1
   have z1 := (ck_v D.out.o).a
   go_wp2_with fail
   have L0 := fun p : Wd u.drew => zbb y1 (by decide) p
   have L1 := fun p : Wd u.drew => zbb z1 (by decide) p
   clear y1 z1
   refine zaj [5] (by kernel_rfl) (by kernel_rfl) (by kernel_rfl) ?_
   repeat (first | (refine zae rfl rfl _ zaf ?_; (first | go_big_quiet_step (fail) | quiet_step (fail)); refine wpQuiet_nil ?_) | refine zag rfl ?_)
   refine zan rfl rfl rfl ze8 #[.agg (cc o), .agg (cc C)] rfl ?_
   refine (HBt'.out _).mono ?_
   rintro e u2 ⟨rfl, g⟩
   refine ⟨_, rfl, g, ?_⟩
   simp only [Act.put, List.setIfInBounds_toArray, List.set_cons_zero, List.set_cons_succ]
   have G2 : Hid (Below u.heap.size u u2) := zab (zah (Below.refl _ _) 1) g
   clear g
   repeat (first | (refine zae rfl rfl _ zaf ?_; (first | go_big_quiet_step (fail) | quiet_step (fail)); refine wpQuiet_nil ?_) | refine zag rfl ?_)
   refine za3 ?_
   clear L0 L1
   replace D := Lib.hid (D.out.keep G2.out)
   have G3 : Hid (Below wr.heap.size wr u2) := zab G1.out G2.out
   clear G1 G2
   replace O := Lib.hid (za5 G3.out O.out)
   obtain ⟨y1, y2⟩ := HLd.out u2 G3.out
   have y3 := (ck_v D.out.f).e
   have z1 := zau D.out.o (zax _)
   obtain ⟨Ce, hCe⟩ : ∃ Ce, Ce = C.epoch.toNat := ⟨_, rfl⟩
   obtain ⟨Fe, hFe⟩ : ∃ Fe, Fe = fin.epoch.toNat := ⟨_, rfl⟩
   rw [← hCe] at y2 hE
   rw [← hFe] at y3 hE
   have t1 : decide ((Fe : Int) < (Ce : Int)) = E := by rw [hE]; exact decide_eq_decide.2 (by omega)
   have t1' : decide (Fe < Ce) = E := hE.symm
   clear hE hCe hFe
   cases a <;> cases b <;> cases E
   case true.true.true =>
    go_wp2_with fail
    go_quiet (fail)
    go_wp2_with fail
    go_roundw
    case rel => exact ⟨j + 1, C, HLT.out, by go_num, by rw [← HBe.out, HSt.out, HOK.out]; rfl, D.out.put C |>.drewN _, zrv O.out HRB.out⟩
    case measure => simp [intOf]; have := HLT.out; omega
   all_goals (
    go_wp2_with fail
    go_quiet (fail)
    go_wp2_with fail
    go_roundw
    case rel => exact ⟨j + 1, o, HLT.out, by go_num, by rw [← HBe.out, HSt.out, HOK.out]; rfl, D.out.drewN _, O.out⟩
    case measure => simp [intOf]; have := HLT.out; omega)
  ·
   obtain rfl : j = n := by omega
   have d0 : decide ((j : Int) < (j : Int)) = false := decide_eq_false (Int.lt_irrefl _)
   have d0' : decide (j < j) = false := decide_eq_false (Nat.lt_irrefl _)
   have hF : Hid (o = r) := by
    show o = r
    rw [← HBe.out, List.drop_eq_nil_of_le (by rw [HL.out]; exact Nat.le_refl _)]; rfl
   have y1 := (ck_v D.out.o).a
   have z1 := zau D.out.r (zax _)
   clear hlt
   go_wp2_with fail
   exact bodyPost_ret (zao Tryz.isAgg36 Tryz.sizeOf36 _ 10 rfl _ _ _ _ rfl (zar (zgz D.out.r) (zax _))) rfl ⟨by rw [hF.out], zas D.out.g (by omega)⟩
theorem zlc : ∀ args w, (callFunc 71 args).run Tryz.prog w = .ok (.enter 71 args) w := za7 Tryz.func71 (by kernel_rfl) (by kernel_rfl)
open Go.RowKit
section
variable {α : Type} {E : Lie α} {P : Program}
def zsy (n : Nat) (v hi : Value) : Option Value :=
 match v, hi with
 | .slice a _ cap, .int _ h => if 0 ≤ h ∧ h ≤ cap then some (sliced a 0 h.toNat cap n) else none
 | _, _ => none
theorem zql {T e : TypeId} {n : Nat} (hT : P.underlying T = some (.slice e)) (hs : ∀ w, (Go.sizeOf e).run P w = .ok n w) (ρ : Operand → Value) (dst : Option Tmp) (x hi : Operand) (ty : TypeId) (pos : String) (after : Array Edge) (guard : Option (Nat × Bool)) (w : World) :
  (execOp ρ { dst, op := .slice T x none (some hi) none, type := ty, pos, after, guard }).run P w = zgh (zsy n (ρ x) (ρ hi)) w (zbf P ρ { dst, op := .slice T x none (some hi) none, type := ty, pos, after, guard } w) := by
 have hu : P.underlying T = some (.slice (P.elem T)) := by simp [Program.elem, hT]
 have he : P.elem T = e := by simp [Program.elem, hT]
 cases h : zsy n (ρ x) (ρ hi) with
 | none => rfl
 | some v =>
  unfold zsy at h
  split at h
  ·
   rename_i a len cap k l hx hl
   split at h
   ·
    rename_i hb
    have hv := Option.some.inj h
    subst hv
    unfold execOp
    simp only [hx, hl, Option.map_some, Option.map_none, Sem.run_bind]
    rw [run_sliceAt_slice w _ _ _ _ _ hu, run_slice_h w _ a len cap hu k l hb.1 hb.2, he, hs]
    rfl
   ·
    cases h
  ·
   cases h
theorem yex (p : Option Addr) (cap : Nat) (l : List α) (n : Nat) (hn : n ≤ l.length) (hc : l.length ≤ cap) : ∃ vr, zsy E.n (.slice p l.length cap) (.int .i64 (n : Int)) = some vr ∧ ∀ (w : World), SlE E w (.slice p l.length cap) l → SlE E w vr (l.take n) := by
 refine ⟨sliced p 0 n cap E.n, ?_, fun w h => ?_⟩
 ·
  show (if 0 ≤ (n : Int) ∧ (n : Int) ≤ (cap : Int) then some (sliced p 0 (n : Int).toNat cap E.n) else none) = _
  rw [if_pos (by omega), Int.toNat_natCast]
 ·
  unfold sliced
  have hl : (l.take n).length = n := by rw [List.length_take]; omega
  refine ⟨_, cap, by rw [hl]; rfl, by rw [hl]; omega, ?_⟩
  by_cases e : n = 0
  ·
   left; rw [e, List.take_zero]
  ·
   right
   obtain ⟨b, off, cap', e1, _, hb, hx⟩ := zcz h (by omega)
   injection e1 with e2 _ e3
   subst e2 e3
   rw [if_neg (by omega)]
   refine ⟨b, off, by simp [Addr.add], hb, fun j v hv => ?_⟩
   have hsplit : zaq E l = zaq E (l.take n) ++ zaq E (l.drop n) := by rw [← zdc, List.take_append_drop]
   refine hx _ v ?_
   rw [hsplit, List.getElem?_append_left (List.getElem?_eq_some_iff.1 hv).1]
   exact hv
end
theorem z2k (x : En) (g : Eg) (r : Rt) (w : World) (h : LaidG w x g) (sg : zep g) :
  Calls Tryz.prog 69 #[.agg (en x), .agg (rc r)] w fun e w' => e = .returned (.int .i64 (zaz g.t r)) ∧ Below w.heap.size w w' := by
 obtain ⟨W0, hW0⟩ : ∃ W0, W0 = (w.alloc (.cells (en x) 38)).alloc (.cells (rc r) 34) := ⟨_, rfl⟩
 obtain ⟨hB, q0, q1, _⟩ := zc2 w _ _ _ _ W0 hW0
 have A : Hid (Gv w W0 w.heap.size x g) := ⟨q0, h.keep hB, hB⟩
 have zm := zar q1 (zay _)
 have HW := Lib.hid hW0
 have HF := Lib.hid (fun W hh => zg6 x.t.n g.t r W hh sg.t)
 obtain ⟨k, hk⟩ : ∃ k, k = zaz g.t r := ⟨_, rfl⟩
 rw [← hk] at HF ⊢
 clear hW0 hB q0 q1 h sg hk
 go_enter Tryz.func69, Tryz.ntmps69
 go_upto_region 1 with fail
 rw [← HW.out]
 have zT := A.out.zT
 go_wp2_with fail
 refine (HF.out _ A.out.l.t).mono ?_
 rintro e w1 ⟨rfl, gg⟩
 replace A := Lib.hid (A.out.keep gg)
 clear zT zm gg HF
 go_wp2_with fail
 go_ret
 exact ⟨rfl, A.out.g⟩
theorem zbr : ∀ args w, (callFunc 69 args).run Tryz.prog w = .ok (.enter 69 args) w := za7 Tryz.func69 (by kernel_rfl) (by kernel_rfl)
def zqe (g : Eg) : Bool := decide (MayT g.t) && (mayB g.bal && (mayV g.v && (mayA g.late && (mayL g.k && (decide (g.v.l.length = g.bal.length) && decide (g.now.toNat ≤ 1099511627776))))))
theorem znz {g : Eg} : zqe g = true ↔ MayT g.t ∧ mayB g.bal = true ∧ mayV g.v = true ∧ mayA g.late = true ∧ mayL g.k = true ∧ g.v.l.length = g.bal.length ∧ g.now.toNat ≤ 1099511627776 := by
 unfold zqe
 simp only [Bool.and_eq_true, decide_eq_true_iff]
theorem z2j (x : En) (g : Eg) (w : World) (h : LaidG w x g) (sg : zep g) :
  Calls Tryz.prog 65 #[.agg (en x)] w fun e w' => e = .returned (.bool (zqe g)) ∧ Below w.heap.size w w' := by
 obtain ⟨W0, hW0⟩ : ∃ W0, W0 = w.alloc (.cells (en x) 38) := ⟨_, rfl⟩
 have A : Hid (Gv w W0 w.heap.size x g) := by rw [hW0]; exact zi0 h
 have HW := Lib.hid hW0
 have H1 := Lib.hid (fun W a => zev x.t.n g.t W a sg.t)
 have H2 := Lib.hid (fun W a => zjm (sv x.bal) g.bal W a (Nat.le_trans sg.bal (by decide)))
 have H3 := Lib.hid (fun W a => zzj x.v.l g.v W a sg.v)
 have H4 := Lib.hid (fun W a => yb9 (sv x.late) g.late W a sg.late)
 have H5 := Lib.hid (fun W a => zzk (sv x.k) g.k W a sg.k)
 obtain ⟨a1, e1⟩ : ∃ a, a = decide (MayT g.t) := ⟨_, rfl⟩
 obtain ⟨a2, e2⟩ : ∃ a, a = mayB g.bal := ⟨_, rfl⟩
 obtain ⟨a3, e3⟩ : ∃ a, a = mayV g.v := ⟨_, rfl⟩
 obtain ⟨a4, e4⟩ : ∃ a, a = mayA g.late := ⟨_, rfl⟩
 obtain ⟨a5, e5⟩ : ∃ a, a = mayL g.k := ⟨_, rfl⟩
 obtain ⟨a6, e6⟩ : ∃ a, a = decide (g.v.l.length = g.bal.length) := ⟨_, rfl⟩
 obtain ⟨a7, e7⟩ : ∃ a, a = decide (g.now.toNat ≤ 1099511627776) := ⟨_, rfl⟩
 obtain ⟨r, hr⟩ : ∃ r, r = zqe g := ⟨_, rfl⟩
 have HF : Hid (r = (a1 && (a2 && (a3 && (a4 && (a5 && (a6 && a7))))))) := by show _ = _; rw [hr, e1, e2, e3, e4, e5, e6, e7]; rfl
 rw [← e1] at H1
 rw [← e2] at H2
 rw [← e3] at H3
 rw [← e4] at H4
 rw [← e5] at H5
 rw [← hr]
 obtain ⟨⟨p2, n2, c2⟩, hs2⟩ : ∃ s : SlV, s = x.v.l := ⟨_, rfl⟩
 obtain ⟨⟨p1, n1, c1⟩, hs1⟩ : ∃ s : SlV, s = x.bal := ⟨_, rfl⟩
 have l2 : g.v.l.length = n2 := by have := zg8 A.out.l.v; rw [← hs2] at this; exact this
 have l1 : g.bal.length = n1 := by
  have := A.out.l.bal
  obtain ⟨p', cap', e, _⟩ := zal this
  rw [← hs1] at e; unfold sv at e; injection e with _ e; exact e.symm
 have t6 : ((n2 : Int) == (n1 : Int)) = a6 := by rw [e6, l1, l2, Bool.eq_iff_iff, beq_iff_eq, decide_eq_true_iff]; omega
 have t6' : (n2 == n1) = a6 := by rw [e6, l1, l2, Bool.eq_iff_iff, beq_iff_eq, decide_eq_true_iff]
 have t6'' : decide (n2 = n1) = a6 := by rw [e6, l1, l2]
 have t7 : decide ((g.now.toNat : Int) ≤ 1099511627776) = a7 := by rw [e7]; congr 1; rw [eq_iff_iff]; omega
 have t7' := e7.symm
 have HS1 := Lib.hid hs1
 have HS2 := Lib.hid hs2
 clear hW0 h sg e1 e2 e3 e4 e5 e6 e7 hr l1 l2 hs1 hs2
 go_enter Tryz.func65, Tryz.ntmps65
 go_upto_region 1 with fail
 rw [← HW.out]
 have z := A.out.zT
 go_wp2_with fail
 refine (H1.out _ A.out.l.t).mono ?_
 rintro e w1 ⟨rfl, gg⟩
 replace A := Lib.hid (A.out.keep gg)
 clear z gg H1
 have z := A.out.zb
 go_wp2_with fail
 refine (H2.out _ A.out.l.bal).mono ?_
 rintro e w2 ⟨rfl, gg⟩
 replace A := Lib.hid (A.out.keep gg)
 clear z gg H2
 have z := A.out.zV
 go_wp2_with fail
 refine (H3.out _ A.out.l.v).mono ?_
 rintro e w3 ⟨rfl, gg⟩
 replace A := Lib.hid (A.out.keep gg)
 clear z gg H3
 have z := A.out.zl
 go_wp2_with fail
 refine (H4.out _ A.out.l.late).mono ?_
 rintro e w4 ⟨rfl, gg⟩
 replace A := Lib.hid (A.out.keep gg)
 clear z gg H4
 have z := A.out.zk
 go_wp2_with fail
 refine (H5.out _ A.out.l.k).mono ?_
 rintro e w5 ⟨rfl, gg⟩
 replace A := Lib.hid (A.out.keep gg)
 clear z gg H5
 have zv := A.out.zv
 rw [← HS2.out, za0] at zv
 have zb := A.out.zb
 rw [← HS1.out, za0] at zb
 have zn := A.out.zn
 cases a1
 ·
  go_wp2_with fail
  go_ret
  exact ⟨by rw [HF.out]; first | done | rfl | simp, A.out.g⟩
 ·
  cases a2
  ·
   go_wp2_with fail
   go_ret
   exact ⟨by rw [HF.out]; first | done | rfl | simp, A.out.g⟩
  ·
   cases a3
   ·
    go_wp2_with fail
    go_ret
    exact ⟨by rw [HF.out]; first | done | rfl | simp, A.out.g⟩
   ·
    cases a4
    ·
     go_wp2_with fail
     go_ret
     exact ⟨by rw [HF.out]; first | done | rfl | simp, A.out.g⟩
    ·
     cases a5
     ·
      go_wp2_with fail
      go_ret
      exact ⟨by rw [HF.out]; first | done | rfl | simp, A.out.g⟩
     ·
      cases a6
      ·
       go_wp2_with fail
       go_ret
       exact ⟨by rw [HF.out]; first | done | rfl | simp, A.out.g⟩
      ·
       cases a7
       ·
        go_wp2_with fail
        go_ret
        exact ⟨by rw [HF.out]; first | done | rfl | simp, A.out.g⟩
       ·
        go_wp2_with fail
        go_ret
        exact ⟨by rw [HF.out]; first | done | rfl | simp, A.out.g⟩
theorem z6d (l : List Nd) (ls : List Lk) (bal : List UInt64) (js : List Ck) : (zc3 l ls bal js).length = js.length ↔ zc3 l ls bal js = js := by
 refine ⟨fun e => ?_, fun e => by rw [e]⟩
 unfold zc3 at *
 split
 ·
  rename_i ht
  rw [if_pos ht] at e
  obtain ⟨ext, h, _⟩ := zkh (cnt := cntB l bal) (ls := ls) ls.length js
  unfold zoz at *
  rw [h] at e ⊢
  rw [List.length_append] at e
  rw [List.length_eq_zero_iff.1 (by omega : ext.length = 0), List.append_nil]
 ·
  rfl
end Go.Proofs.YtkalofboioffiaaGreat
