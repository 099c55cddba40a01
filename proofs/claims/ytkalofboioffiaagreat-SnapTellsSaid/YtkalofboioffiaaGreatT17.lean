import Derived.Test.YtkalofboioffiaaGreatT16
namespace Go.Proofs.YtkalofboioffiaaGreat
open Go.RowKit
set_option maxRecDepth 200000
set_option maxHeartbeats 64000000
@[go_sem ↓] theorem yg1 (ρ : Operand → Value) (dst : Option Tmp) (x hi : Operand) (ty : TypeId) (pos : String) (after : Array Edge) (guard : Option (Nat × Bool)) (w : World) :
  (execOp ρ { dst, op := .slice 32 x none (some hi) none, type := ty, pos, after, guard }).run Tryz.prog w = zgh (zsy 33 (ρ x) (ρ hi)) w (zbf Tryz.prog ρ { dst, op := .slice 32 x none (some hi) none, type := ty, pos, after, guard } w) :=
 zql Tryz.underlying32 Tryz.sizeOf36 ρ dst x hi ty pos after guard w
theorem zoe {α : Type} {E : Lie α} {w : World} {s : SlV} {l : List α} (h : SlE E w (sv s) l) : l.length = s.len := by
 obtain ⟨p', cap', e, _⟩ := zal h
 unfold sv at e; injection e with _ e; exact e.symm
theorem z1p {l : List Ck} : (∀ i, i < l.length → ckAt l i ∉ l.take i) → l.Nodup := by
 intro h
 rw [List.nodup_iff_pairwise_ne, List.pairwise_iff_getElem]
 intro i j hi hj hij e
 refine h j hj ?_
 rw [zcv hj, ← e]
 exact List.mem_take_iff_getElem.2 ⟨i, by omega, rfl⟩
theorem z6k {l : List Ck} {i : Nat} (hi : i < l.length) (h : ckAt l i ∈ l.take i) : ¬ l.Nodup := by
 intro hn
 rw [List.nodup_iff_pairwise_ne, List.pairwise_iff_getElem] at hn
 obtain ⟨j, hj, e⟩ := List.mem_take_iff_getElem.1 h
 rw [zcv hi] at e
 exact hn j i (by omega) hi (by omega) e
structure MayW (g : Eg) : Prop where
 p : zqe g = true
 w : wtsL g.t g.v g.bal = g.w
 f : g.fin ∈ g.j
 l : ∀ i, i < g.late.length → g.now.toNat ≤ slA g.late i
 j : ∀ i, i < g.j.length → ckAt g.j i ∉ g.j.take i ∧ 0 ≤ zaz g.t (ckAt g.j i).root
 v : ∀ i, i < g.v.l.length → (lat g.v.l i).has = true → 0 ≤ zaz g.t (lat g.v.l i).root
 k : ∀ i, i < g.k.length → 0 ≤ zaz g.t (lkAt g.k i).s.root ∧ 0 ≤ zaz g.t (lkAt g.k i).t.root
 m : (zc3 g.t g.k g.bal g.j).length = g.j.length
 n : znq g.t g.k g.bal g.j g.fin = g.fin
theorem ybe {g : Eg} : mayG g = true ↔ MayW g := by
 unfold mayG
 rw [decide_eq_true_iff]
 constructor
 ·
  rintro ⟨h1, h2, h3, h4, h5, h6, h7, h8, h9, h10⟩
  refine ⟨znz.2 h1, h2.symm, h4, fun i hi => ?_, fun i hi => ⟨fun e => z6k hi e h5, ?_⟩, fun i hi e => ?_, fun i hi => ?_, (z6d _ _ _ _).2 h9, h10⟩
  ·
   have := h3 (att g.late i) (by rw [zim hi]; exact List.getElem_mem hi)
   exact this
  ·
   have := h6 (ckAt g.j i) (by rw [zcv hi]; exact List.getElem_mem hi)
   unfold inT at this; exact of_decide_eq_true this
  ·
   have := h7 i hi e
   unfold inT at this; exact of_decide_eq_true this
  ·
   have := h8 (lkAt g.k i) (by rw [zd6 hi]; exact List.getElem_mem hi)
   unfold inT at this; exact ⟨of_decide_eq_true this.1, of_decide_eq_true this.2⟩
 ·
  rintro ⟨h1, h2, h3, h4, h5, h6, h7, h8, h9⟩
  refine ⟨znz.1 h1, h2.symm, fun a ha => ?_, h3, z1p fun i hi => (h5 i hi).1, fun c hc => ?_, fun i hi e => decide_eq_true (h6 i hi e), fun k hk => ?_, (z6d _ _ _ _).1 h8, h9⟩
  ·
   obtain ⟨i, hi, rfl⟩ := List.getElem_of_mem ha
   have := h4 i hi
   unfold slA at this
   rwa [zim hi] at this
  ·
   obtain ⟨i, hi, rfl⟩ := List.getElem_of_mem hc
   have := (h5 i hi).2
   rw [zcv hi] at this
   exact decide_eq_true this
  ·
   obtain ⟨i, hi, rfl⟩ := List.getElem_of_mem hk
   have := h7 i hi
   rw [zd6 hi] at this
   exact ⟨decide_eq_true this.1, decide_eq_true this.2⟩
theorem ycc (x : En) (g : Eg) (w : World) (h : LaidG w x g) (sg : zep g) (hjk : g.j.length + g.k.length ≤ 1000) :
  Calls Tryz.prog 32 #[.agg (en x)] w fun e w' => e = .returned (.bool (mayG g)) ∧ Below w.heap.size w w' := by
 obtain ⟨W0, hW0⟩ : ∃ W0, W0 = w.alloc (.cells (en x) 38) := ⟨_, rfl⟩
 have A : Hid (Gv w W0 w.heap.size x g) := by rw [hW0]; exact zi0 h
 have HW := Lib.hid hW0
 have HP := Lib.hid (fun W hh => z2j x g W hh sg)
 have HWt := Lib.hid (fun W (hh : LaidG W x g) => zul x.t.n x.v.l (sv x.bal) g.t g.v g.bal W hh.t hh.v hh.bal sg.t sg.v sg.bal)
 have HSm := Lib.hid (fun v W a b c => z7i v (sv x.w) (wtsL g.t g.v g.bal) g.w W a b c)
 have HHf := Lib.hid (fun W a => zlx (sv x.j) g.j g.fin W a sg.j)
 have HHt := Lib.hid (fun v l c W a b => zlx v l c W a b)
 have HFd := Lib.hid (fun r W a => zg6 x.t.n g.t r W a sg.t)
 have HPl := Lib.hid (fun r W hh => z2k x g r W hh sg)
 have HMo := Lib.hid (fun W (hh : LaidG W x g) => z7r x.t.n (sv x.k) (sv x.bal) (sv x.j) g.t g.k g.bal g.j W hh.t hh.k hh.bal hh.j sg.t (Nat.le_trans sg.bal (by decide)) hjk)
 have HNx := Lib.hid (fun W (hh : LaidG W x g) => z7s x.t.n (sv x.k) (sv x.bal) (sv x.j) g.t g.k g.bal g.j g.fin W hh.t hh.k hh.bal hh.j sg.t (Nat.le_trans sg.bal (by decide)) sg.k sg.j)
 have SG := Lib.hid sg
 obtain ⟨R, hR⟩ : ∃ R, R = mayG g := ⟨_, rfl⟩
 rw [← hR]
 have HR : Hid (R = true ↔ MayW g) := by show _ ↔ _; rw [hR]; exact ybe
 have HNo : Hid (¬ MayW g → R = false) := fun e => Bool.eq_false_iff.2 fun e2 => e (HR.out.1 e2)
 obtain ⟨b1, hb1⟩ : ∃ b, b = zqe g := ⟨_, rfl⟩
 obtain ⟨b2, hb2⟩ : ∃ b, b = decide (wtsL g.t g.v g.bal = g.w) := ⟨_, rfl⟩
 obtain ⟨b3, hb3⟩ : ∃ b, b = decide (g.fin ∈ g.j) := ⟨_, rfl⟩
 rw [← hb1] at HP
 rw [← hb2] at HSm
 rw [← hb3] at HHf
 have HB1 := Lib.hid hb1.symm
 have HB2 := Lib.hid hb2.symm
 have HB3 := Lib.hid hb3.symm
 obtain ⟨⟨pl, nl, cl'⟩, hsl⟩ : ∃ s : SlV, s = x.late := ⟨_, rfl⟩
 obtain ⟨⟨pj, nj, cj⟩, hsj⟩ : ∃ s : SlV, s = x.j := ⟨_, rfl⟩
 obtain ⟨⟨pv, nv, cv⟩, hsv⟩ : ∃ s : SlV, s = x.v.l := ⟨_, rfl⟩
 obtain ⟨⟨pk, nk, ck⟩, hsk⟩ : ∃ s : SlV, s = x.k := ⟨_, rfl⟩
 have HLl : Hid (g.late.length = nl) := by have := zoe h.late; rw [← hsl] at this; exact this
 have HLj : Hid (g.j.length = nj) := by have := zoe h.j; rw [← hsj] at this; exact this
 have HLv : Hid (g.v.l.length = nv) := by have := zoe h.v; rw [← hsv] at this; exact this
 have HLk : Hid (g.k.length = nk) := by have := zoe h.k; rw [← hsk] at this; exact this
 have HSl := Lib.hid hsl
 have HSj := Lib.hid hsj
 have HSv := Lib.hid hsv
 have HSk := Lib.hid hsk
 clear hW0 h sg hjk hR hb1 hb2 hb3 hsl hsj hsv hsk
 go_enter Tryz.func32, Tryz.ntmps32
 go_upto_region 1 with fail
 rw [← HW.out]
 have z := A.out.z
 go_wp2_with fail
 refine (HP.out _ A.out.l).mono ?_
 rintro e w1 ⟨rfl, g⟩
 replace A := Lib.hid (A.out.keep g)
 clear g z HP HW
 cases b1
 ·
  have HF : Hid (R = false) := HNo.out (fun m => by have := m.p; rw [HB1.out] at this; cases this)
  go_wp2_with fail
  go_ret
  exact ⟨by rw [HF.out]; first | done | rfl, A.out.g⟩
 ·
  have zT := A.out.zT
  have zV := A.out.zV
  have zb := A.out.zb
  go_wp2_with fail
  refine (HWt.out _ A.out.l).mono ?_
  rintro e w2 ⟨v4, rfl, ho, g2⟩
  replace A := Lib.hid (A.out.keep g2)
  obtain ⟨p4, c4, rfl⟩ := zb4 ho
  have SW := Lib.hid (za2 ho)
  clear g2 ho zT zV zb HWt
  have zw := A.out.zw
  have hwl : (wtsL g.t g.v g.bal).length ≤ 1000 := by obtain ⟨h1, h2, h3, _, _, h6, _⟩ := znz.1 HB1.out; rw [z8s (zd5.2 ⟨h1, h3, h2, h6⟩)]; exact SG.out.t
  go_wp2_with fail
  refine (HSm.out _ _ SW.out A.out.l.w hwl).mono ?_
  rintro e w3 ⟨rfl, g⟩
  replace A := Lib.hid (A.out.keep g)
  replace SW := Lib.hid (zad g SW.out)
  clear g zw hwl HSm
  clear SW
  have zj := A.out.zj
  have zf := A.out.zf
  go_wp2_with fail
  refine (HHf.out _ A.out.l.j).mono ?_
  rintro e w4 ⟨rfl, g⟩
  replace A := Lib.hid (A.out.keep g)
  clear g zj zf HHf
  cases b2
  ·
   have HF : Hid (R = false) := HNo.out (fun m => by have := m.w; exact of_decide_eq_false HB2.out this)
   go_wp2_with fail
   go_ret
   exact ⟨by rw [HF.out]; first | done | rfl, A.out.g⟩
  ·
   cases b3
   ·
    have HF : Hid (R = false) := HNo.out (fun m => by have := m.f; exact of_decide_eq_false HB3.out this)
    go_wp2_with fail
    go_ret
    exact ⟨by rw [HF.out]; first | done | rfl, A.out.g⟩
   ·
    go_wp2_with fail
    go_loopw [8] (fun i wr => ∃ j : Nat, j ≤ nl ∧ i = .int .i64 (j : Int) ∧ (∀ q, q < j → g.now.toNat ≤ slA g.late q) ∧ Gv w wr w.heap.size x g) (fun i _ => nl - (intOf i).toNat)
    case atStart => exact ⟨0, Nat.zero_le _, rfl, fun q hq => absurd hq (Nat.not_lt_zero _), A.out⟩
    case round =>
     obtain ⟨j, hj, rfl, hx, hA⟩ := hrel
     have HX := Lib.hid hx
     replace A := Lib.hid hA
     clear hx hA
     have zc := A.out.zl
     rw [← HSl.out, za0] at zc
     by_cases hlt : j < nl
     ·
      have i0 : (0 : Int) ≤ (j : Int) := by omega
      have i1 : (j : Int) < (nl : Int) := by omega
      have u1 : (j : Int) + 1 < 10000 := by have := HLl.out; have := SG.out.t; have := SG.out.late; have := SG.out.j; have := SG.out.v; have := SG.out.k; omega
      have HLT := Lib.hid hlt
      clear hlt
      obtain ⟨b1, o1, rfl, _, x1⟩ := zlp (by have := A.out.l.late; rw [← HSl.out, za0] at this; exact this) (by have := HLl.out; have := HLT.out; omega)
      have y1 := zsu x1 (i := j) (by have := HLl.out; have := HLT.out; omega)
      have zn := A.out.zn
      obtain ⟨y, hy⟩ : ∃ y, y = slA g.late j := ⟨_, rfl⟩
      obtain ⟨N, hN⟩ : ∃ N, N = g.now.toNat := ⟨_, rfl⟩
      rw [← hy] at y1
      rw [← hN] at zn
      have HY := Lib.hid hy
      have HN := Lib.hid hN
      clear x1 hy hN
      by_cases hd : y < N
      ·
       have t1 : decide ((y : Int) < (N : Int)) = true := decide_eq_true (by omega)
       have t2 : decide (y < N) = true := decide_eq_true hd
       have HD := Lib.hid hd
       clear hd
       go_wp2_with fail
       go_quiet (fail)
       have HF : Hid (R = false) := HNo.out (fun m => by have := m.l j (by rw [HLl.out]; exact HLT.out); have := HD.out; rw [HY.out, HN.out] at this; omega)
       go_wp2_with fail
       go_ret
       exact ⟨by rw [HF.out]; first | done | rfl, zah A.out.g _⟩
      ·
       have t1 : decide ((y : Int) < (N : Int)) = false := decide_eq_false (by omega)
       have t2 : decide (y < N) = false := decide_eq_false hd
       have HD := Lib.hid hd
       clear hd
       go_wp2_with fail
       go_quiet (fail)
       go_wp2_with fail
       go_roundw
       case rel => exact ⟨j + 1, HLT.out, by go_num, (fun q hq => by
        rcases Nat.lt_succ_iff_lt_or_eq.1 hq with h | rfl
        ·
         exact HX.out q h
        ·
         have := HD.out; rw [HY.out, HN.out] at this; omega), A.out.keep (zah (Below.refl _ _) _)⟩
       case measure => simp [intOf]; have := HLT.out; omega
     ·
      obtain rfl : nl = j := by omega
      have HLate := Lib.hid HX.out
      clear hlt HX hj
      go_wp2_with fail
      clear zc
      go_loopw [9] (fun i wr => ∃ j : Nat, j ≤ nj ∧ i = .int .i64 (j : Int) ∧ (∀ q, q < j → ckAt g.j q ∉ g.j.take q ∧ 0 ≤ zaz g.t (ckAt g.j q).root) ∧ Gv w wr w.heap.size x g) (fun i _ => nj - (intOf i).toNat)
      case atStart => exact ⟨0, Nat.zero_le _, rfl, fun q hq => absurd hq (Nat.not_lt_zero _), A.out⟩
      case round =>
       obtain ⟨j, hj, rfl, hx, hA⟩ := hrel
       have HX := Lib.hid hx
       replace A := Lib.hid hA
       clear hx hA
       have zc := A.out.zj
       rw [← HSj.out, za0] at zc
       by_cases hlt : j < nj
       ·
        have i0 : (0 : Int) ≤ (j : Int) := by omega
        have i1 : (j : Int) < (nj : Int) := by omega
        have u1 : (j : Int) + 1 < 10000 := by have := HLj.out; have := SG.out.t; have := SG.out.late; have := SG.out.j; have := SG.out.v; have := SG.out.k; omega
        have HLT := Lib.hid hlt
        clear hlt
        have hsj := A.out.l.j
        rw [← HSj.out, za0] at hsj
        have HSJ := Lib.hid hsj
        have hcap : nj ≤ cj := by obtain ⟨_, _, e, hh⟩ := zal hsj; injection e with _ _ e3; omega
        obtain ⟨b1, o1, hp1, _, x1⟩ := zdq hsj (by have := HLj.out; have := HLT.out; omega)
        subst hp1
        have y1 := zgi x1 (i := j) (by have := HLj.out; have := HLT.out; omega)
        have y2 := zc6 (z36 x1 (i := j) (by have := HLj.out; have := HLT.out; omega))
        obtain ⟨cr, hc1, hc2⟩ := yex (E := Ecc) (some ⟨b1, o1, none⟩) cj g.j j (by rw [HLj.out]; have := HLT.out; omega) (by rw [HLj.out]; exact hcap)
        rw [HLj.out] at hc1 hc2
        change zsy 33 _ _ = some cr at hc1
        have SC := Lib.hid (hc2 _ hsj)
        have HT1 := Lib.hid (fun W a => HHt.out cr (g.j.take j) (ckAt g.j j) W a (by rw [List.length_take]; have := SG.out.j; omega))
        obtain ⟨d, hd⟩ : ∃ d, d = decide (ckAt g.j j ∈ g.j.take j) := ⟨_, rfl⟩
        rw [← hd] at HT1
        obtain ⟨c, hc⟩ : ∃ c, c = ckAt g.j j := ⟨_, rfl⟩
        rw [← hc] at HT1 y1 y2
        have HC := Lib.hid hc
        have HD := Lib.hid hd
        have HFc := Lib.hid (HFd.out c.root)
        obtain ⟨f, hf⟩ : ∃ f, f = zaz g.t c.root := ⟨_, rfl⟩
        rw [← hf] at HFc
        have HFf := Lib.hid hf
        clear hc2 x1 hcap hsj hc hd hf
        go_upto_region 17 with fail
        obtain ⟨WR, hWR⟩ : ∃ W : World, W = wr := ⟨_, rfl⟩
        rw [← hWR] at A SC y1 y2 zc ⊢
        clear hWR
        have L0 := fun p : Wd WR.drew => zbc zc p
        have L1 := fun p : Wd WR.drew => zbb y1 (by decide) p
        clear zc y1 y2
        refine zaj [9] (by kernel_rfl) (by kernel_rfl) (by kernel_rfl) ?_
        repeat (first | (refine zae rfl rfl _ zaf ?_; (first | go_big_quiet_step (fail) | quiet_step (fail)); refine wpQuiet_nil ?_) | refine zag rfl ?_)
        refine zan rfl rfl rfl zmr #[cr, .agg (cc c)] rfl ?_
        refine (HT1.out _ (zad (zah (Below.refl _ _) 1) SC.out)).mono ?_
        rintro e u ⟨rfl, g⟩
        refine ⟨_, rfl, g, ?_⟩
        simp only [Act.put, List.setIfInBounds_toArray, List.set_cons_zero, List.set_cons_succ]
        have GB : Hid (Below WR.heap.size WR u) := zab (zah (Below.refl _ _) 1) g
        clear g
        repeat (first | (refine zae rfl rfl _ zaf ?_; (first | go_big_quiet_step (fail) | quiet_step (fail)); refine wpQuiet_nil ?_) | refine zag rfl ?_)
        refine za3 ?_
        clear L0 L1
        replace A := Lib.hid (A.out.keep GB.out)
        replace SC := Lib.hid (zad GB.out SC.out)
        clear GB
        obtain ⟨w5, rfl⟩ : ∃ W : World, W = u := ⟨_, rfl⟩
        clear SC
        cases d
        ·
         have zT := A.out.zT
         have zc := A.out.zj
         rw [← HSj.out, za0] at zc
         obtain ⟨b2, o2, hp2, _, x1⟩ := zdq (by have := A.out.l.j; rw [← HSj.out, za0] at this; exact this) (by have := HLj.out; have := HLT.out; omega)
         injection hp2 with hp2
         injection hp2 with e1 e2
         subst e1 e2
         have y2 := zc6 (z36 x1 (i := j) (by have := HLj.out; have := HLT.out; omega))
         rw [← HC.out] at y2
         clear x1
         go_upto_region 18 with fail
         by_cases hd : f < 0
         ·
          have t1 : decide (f < 0) = true := decide_eq_true hd
          have HD2 := Lib.hid hd
          clear hd
          have L0 := fun p : Wd w5.drew => zbb zT (by decide) p
          have L1 := fun p : Wd w5.drew => zbc zc p
          have L2 := fun p : Wd w5.drew => zbb y2 (by decide) p
          clear zT zc y2
          refine zaj [10] (by kernel_rfl) (by kernel_rfl) (by kernel_rfl) ?_
          repeat (first | (refine zae rfl rfl _ zaf ?_; (first | go_big_quiet_step (fail) | quiet_step (fail)); refine wpQuiet_nil ?_) | refine zag rfl ?_)
          refine zan rfl rfl rfl zco #[.agg (tr ⟨x.t.n⟩), .agg (rc c.root)] rfl ?_
          refine (HFc.out _ (zad (zah (Below.refl _ _) 1) A.out.l.t)).mono ?_
          rintro e u ⟨rfl, g⟩
          refine ⟨_, rfl, g, ?_⟩
          simp only [Act.put, List.setIfInBounds_toArray, List.set_cons_zero, List.set_cons_succ]
          have GB : Hid (Below w5.heap.size w5 u) := zab (zah (Below.refl _ _) 1) g
          clear g
          repeat (first | (refine zae rfl rfl _ zaf ?_; (first | go_big_quiet_step (fail) | quiet_step (fail)); refine wpQuiet_nil ?_) | refine zag rfl ?_)
          refine za3 ?_
          clear L0 L1 L2
          replace A := Lib.hid (A.out.keep GB.out)
          clear GB
          obtain ⟨w6, rfl⟩ : ∃ W : World, W = u := ⟨_, rfl⟩
          have HF : Hid (R = false) := HNo.out (fun m => by have := (m.j j (by rw [HLj.out]; exact HLT.out)).2; have := HD2.out; rw [HFf.out, HC.out] at this; omega)
          go_wp2_with fail
          go_ret
          exact ⟨by rw [HF.out]; first | done | rfl, A.out.g⟩
         ·
          have t1 : decide (f < 0) = false := decide_eq_false hd
          have HD2 := Lib.hid hd
          clear hd
          have L0 := fun p : Wd w5.drew => zbb zT (by decide) p
          have L1 := fun p : Wd w5.drew => zbc zc p
          have L2 := fun p : Wd w5.drew => zbb y2 (by decide) p
          clear zT zc y2
          refine zaj [10] (by kernel_rfl) (by kernel_rfl) (by kernel_rfl) ?_
          repeat (first | (refine zae rfl rfl _ zaf ?_; (first | go_big_quiet_step (fail) | quiet_step (fail)); refine wpQuiet_nil ?_) | refine zag rfl ?_)
          refine zan rfl rfl rfl zco #[.agg (tr ⟨x.t.n⟩), .agg (rc c.root)] rfl ?_
          refine (HFc.out _ (zad (zah (Below.refl _ _) 1) A.out.l.t)).mono ?_
          rintro e u ⟨rfl, g⟩
          refine ⟨_, rfl, g, ?_⟩
          simp only [Act.put, List.setIfInBounds_toArray, List.set_cons_zero, List.set_cons_succ]
          have GB : Hid (Below w5.heap.size w5 u) := zab (zah (Below.refl _ _) 1) g
          clear g
          repeat (first | (refine zae rfl rfl _ zaf ?_; (first | go_big_quiet_step (fail) | quiet_step (fail)); refine wpQuiet_nil ?_) | refine zag rfl ?_)
          refine za3 ?_
          clear L0 L1 L2
          replace A := Lib.hid (A.out.keep GB.out)
          clear GB
          obtain ⟨w6, rfl⟩ : ∃ W : World, W = u := ⟨_, rfl⟩
          go_wp2_with fail
          go_roundw
          case rel => exact ⟨j + 1, HLT.out, by go_num, (fun q hq => by
           rcases Nat.lt_succ_iff_lt_or_eq.1 hq with h | rfl
           ·
            exact HX.out q h
           ·
            exact ⟨of_decide_eq_false HD.out.symm, by have := HD2.out; rw [HFf.out, HC.out] at this; omega⟩), A.out⟩
          case measure => simp [intOf]; have := HLT.out; omega
        ·
         go_upto_region 18 with fail
         refine zaj [10] (by kernel_rfl) (by kernel_rfl) (by kernel_rfl) ?_
         repeat (first | (refine zae rfl rfl _ zaf ?_; (first | go_big_quiet_step (fail) | quiet_step (fail)); refine wpQuiet_nil ?_) | refine zag rfl ?_)
         refine za3 ?_
         replace A := Lib.hid (A.out.keep (show Below w5.heap.size w5 w5.drew from zah (Below.refl _ _) 1))
         generalize w5.drew = w6 at *
         have HF : Hid (R = false) := HNo.out (fun m => by have := (m.j j (by rw [HLj.out]; exact HLT.out)).1; exact this (of_decide_eq_true HD.out.symm))
         go_wp2_with fail
         go_ret
         exact ⟨by rw [HF.out]; first | done | rfl, A.out.g⟩
       ·
        obtain rfl : nj = j := by omega
        have HJust := Lib.hid HX.out
        clear hlt HX hj
        go_wp2_with fail
        clear zc
        go_loopw [11] (fun i wr => ∃ j : Nat, j ≤ nv ∧ i = .int .i64 (j : Int) ∧ (∀ q, q < j → (lat g.v.l q).has = true → 0 ≤ zaz g.t (lat g.v.l q).root) ∧ Gv w wr w.heap.size x g) (fun i _ => nv - (intOf i).toNat)
        case atStart => exact ⟨0, Nat.zero_le _, rfl, fun q hq => absurd hq (Nat.not_lt_zero _), A.out⟩
        case round =>
         obtain ⟨j, hj, rfl, hx, hA⟩ := hrel
         have HX := Lib.hid hx
         replace A := Lib.hid hA
         clear hx hA
         have zc := A.out.zv
         rw [← HSv.out, za0] at zc
         by_cases hlt : j < nv
         ·
          have i0 : (0 : Int) ≤ (j : Int) := by omega
          have i1 : (j : Int) < (nv : Int) := by omega
          have u1 : (j : Int) + 1 < 10000 := by have := HLv.out; have := SG.out.t; have := SG.out.late; have := SG.out.j; have := SG.out.v; have := SG.out.k; omega
          have HLT := Lib.hid hlt
          clear hlt
          obtain ⟨b1, o1, hp1, _, x1⟩ := zf5 (by have := A.out.l.v; rw [← HSv.out, za0] at this; exact this) (by have := HLv.out; have := HLT.out; omega)
          subst hp1
          have y1 := zrc x1 (i := j) (by have := HLv.out; have := HLT.out; omega)
          have y2 := ztk x1 (i := j) (by have := HLv.out; have := HLT.out; omega)
          have z := A.out.z
          obtain ⟨c, hc⟩ : ∃ c, c = lat g.v.l j := ⟨_, rfl⟩
          rw [← hc] at y1 y2
          have HC := Lib.hid hc
          have HFc := Lib.hid (HPl.out c.root)
          obtain ⟨f, hf⟩ : ∃ f, f = zaz g.t c.root := ⟨_, rfl⟩
          rw [← hf] at HFc
          have HFf := Lib.hid hf
          obtain ⟨hs, hhs⟩ : ∃ h, h = c.has := ⟨_, rfl⟩
          rw [← hhs] at y1
          have HHs := Lib.hid hhs
          clear x1 hc hf hhs
          go_upto_region 23 with fail
          obtain ⟨WR, hWR⟩ : ∃ W : World, W = wr := ⟨_, rfl⟩
          rw [← hWR] at A z y1 y2 zc ⊢
          clear hWR
          cases hs
          ·
           have L0 := fun p : Wd WR.drew => zbc zc p
           have L1 := fun p : Wd WR.drew => zbc y1 p
           have L2 := fun p : Wd WR.drew => zbb y2 (by decide) p
           have L3 := fun p : Wd WR.drew => zbb z (by decide) p
           clear zc y1 y2 z
           refine zaj [16] (by kernel_rfl) (by kernel_rfl) (by kernel_rfl) ?_
           repeat (first | (refine zae rfl rfl _ zaf ?_; (first | go_big_quiet_step (fail) | quiet_step (fail)); refine wpQuiet_nil ?_) | refine zag rfl ?_)
           refine za3 ?_
           clear L0 L1 L2 L3
           replace A := Lib.hid (A.out.keep (show Below WR.heap.size WR WR.drew from zah (Below.refl _ _) 1))
           generalize WR.drew = w7 at *
           go_wp2_with fail
           go_roundw
           case rel => exact ⟨j + 1, HLT.out, by go_num, (fun q hq => by
            rcases Nat.lt_succ_iff_lt_or_eq.1 hq with h | rfl
            ·
             exact HX.out q h
            ·
             exact fun e => by rw [← HC.out, ← HHs.out] at e; cases e), A.out⟩
           case measure => simp [intOf]; have := HLT.out; omega
          ·
           by_cases hd : f < 0
           ·
            have t1 : decide (f < 0) = true := decide_eq_true hd
            have HD := Lib.hid hd
            clear hd
            have L0 := fun p : Wd WR.drew => zbc zc p
            have L1 := fun p : Wd WR.drew => zbc y1 p
            have L2 := fun p : Wd WR.drew => zbb y2 (by decide) p
            have L3 := fun p : Wd WR.drew => zbb z (by decide) p
            clear zc y1 y2 z
            refine zaj [16] (by kernel_rfl) (by kernel_rfl) (by kernel_rfl) ?_
            repeat (first | (refine zae rfl rfl _ zaf ?_; (first | go_big_quiet_step (fail) | quiet_step (fail)); refine wpQuiet_nil ?_) | refine zag rfl ?_)
            refine zan rfl rfl rfl zbr #[.agg (en x), .agg (rc c.root)] rfl ?_
            refine (HFc.out _ (A.out.l.keep (zah (Below.refl _ _) 1))).mono ?_
            rintro e u ⟨rfl, g⟩
            refine ⟨_, rfl, g, ?_⟩
            simp only [Act.put, List.setIfInBounds_toArray, List.set_cons_zero, List.set_cons_succ]
            have GB : Hid (Below WR.heap.size WR u) := zab (zah (Below.refl _ _) 1) g
            clear g
            repeat (first | (refine zae rfl rfl _ zaf ?_; (first | go_big_quiet_step (fail) | quiet_step (fail)); refine wpQuiet_nil ?_) | refine zag rfl ?_)
            refine za3 ?_
            clear L0 L1 L2 L3
            replace A := Lib.hid (A.out.keep GB.out)
            clear GB
            obtain ⟨w7, rfl⟩ : ∃ W : World, W = u := ⟨_, rfl⟩
            have HF : Hid (R = false) := HNo.out (fun m => by have := m.v j (by rw [HLv.out]; exact HLT.out) (by rw [← HC.out]; exact HHs.out.symm); have := HD.out; rw [HFf.out, HC.out] at this; omega)
            go_wp2_with fail
            go_ret
            exact ⟨by rw [HF.out]; first | done | rfl, A.out.g⟩
           ·
            have t1 : decide (f < 0) = false := decide_eq_false hd
            have HD2 := Lib.hid hd
            clear hd
            have L0 := fun p : Wd WR.drew => zbc zc p
            have L1 := fun p : Wd WR.drew => zbc y1 p
            have L2 := fun p : Wd WR.drew => zbb y2 (by decide) p
            have L3 := fun p : Wd WR.drew => zbb z (by decide) p
            clear zc y1 y2 z
            refine zaj [16] (by kernel_rfl) (by kernel_rfl) (by kernel_rfl) ?_
            repeat (first | (refine zae rfl rfl _ zaf ?_; (first | go_big_quiet_step (fail) | quiet_step (fail)); refine wpQuiet_nil ?_) | refine zag rfl ?_)
            refine zan rfl rfl rfl zbr #[.agg (en x), .agg (rc c.root)] rfl ?_
            refine (HFc.out _ (A.out.l.keep (zah (Below.refl _ _) 1))).mono ?_
            rintro e u ⟨rfl, g⟩
            refine ⟨_, rfl, g, ?_⟩
            simp only [Act.put, List.setIfInBounds_toArray, List.set_cons_zero, List.set_cons_succ]
            have GB : Hid (Below WR.heap.size WR u) := zab (zah (Below.refl _ _) 1) g
            clear g
            repeat (first | (refine zae rfl rfl _ zaf ?_; (first | go_big_quiet_step (fail) | quiet_step (fail)); refine wpQuiet_nil ?_) | refine zag rfl ?_)
            refine za3 ?_
            clear L0 L1 L2 L3
            replace A := Lib.hid (A.out.keep GB.out)
            clear GB
            obtain ⟨w7, rfl⟩ : ∃ W : World, W = u := ⟨_, rfl⟩
            go_wp2_with fail
            go_roundw
            case rel => exact ⟨j + 1, HLT.out, by go_num, (fun q hq => by
             rcases Nat.lt_succ_iff_lt_or_eq.1 hq with h | rfl
             ·
              exact HX.out q h
             ·
              exact fun _ => by have := HD2.out; rw [HFf.out, HC.out] at this; omega), A.out⟩
            case measure => simp [intOf]; have := HLT.out; omega
         ·
          obtain rfl : nv = j := by omega
          have HVote := Lib.hid HX.out
          clear hlt HX hj
          go_wp2_with fail
          clear zc
          go_loopw [12] (fun i wr => ∃ j : Nat, j ≤ nk ∧ i = .int .i64 (j : Int) ∧ (∀ q, q < j → 0 ≤ zaz g.t (lkAt g.k q).s.root ∧ 0 ≤ zaz g.t (lkAt g.k q).t.root) ∧ Gv w wr w.heap.size x g) (fun i _ => nk - (intOf i).toNat)
          case atStart => exact ⟨0, Nat.zero_le _, rfl, fun q hq => absurd hq (Nat.not_lt_zero _), A.out⟩
          case round =>
           obtain ⟨j, hj, rfl, hx, hA⟩ := hrel
           have HX := Lib.hid hx
           replace A := Lib.hid hA
           clear hx hA
           have zc := A.out.zk
           rw [← HSk.out, za0] at zc
           by_cases hlt : j < nk
           ·
            have i0 : (0 : Int) ≤ (j : Int) := by omega
            have i1 : (j : Int) < (nk : Int) := by omega
            have u1 : (j : Int) + 1 < 10000 := by have := HLk.out; have := SG.out.t; have := SG.out.late; have := SG.out.j; have := SG.out.v; have := SG.out.k; omega
            have HLT := Lib.hid hlt
            clear hlt
            obtain ⟨b1, o1, hp1, _, x1⟩ := zes (by have := A.out.l.k; rw [← HSk.out, za0] at this; exact this) (by have := HLk.out; have := HLT.out; omega)
            subst hp1
            have y1 := zky (znj x1 (i := j) (by have := HLk.out; have := HLT.out; omega))
            have y2 := zkz (znj x1 (i := j) (by have := HLk.out; have := HLT.out; omega))
            have z := A.out.z
            obtain ⟨c, hc⟩ : ∃ c, c = lkAt g.k j := ⟨_, rfl⟩
            rw [← hc] at y1 y2
            have HC := Lib.hid hc
            have HFs := Lib.hid (HPl.out c.s.root)
            have HFt := Lib.hid (HPl.out c.t.root)
            obtain ⟨f, hf⟩ : ∃ f, f = zaz g.t c.s.root := ⟨_, rfl⟩
            obtain ⟨f2, hf2⟩ : ∃ f, f = zaz g.t c.t.root := ⟨_, rfl⟩
            rw [← hf] at HFs
            rw [← hf2] at HFt
            have HF1 := Lib.hid hf
            have HF2 := Lib.hid hf2
            clear x1 hc hf hf2
            go_upto_region 28 with fail
            obtain ⟨WR, hWR⟩ : ∃ W : World, W = wr := ⟨_, rfl⟩
            rw [← hWR] at A z y1 y2 zc ⊢
            clear hWR
            by_cases hd : f < 0
            ·
             have t1 : decide (f < 0) = true := decide_eq_true hd
             have HD := Lib.hid hd
             clear hd
             have L0 := fun p : Wd WR.drew => zbc zc p
             have L1 := fun p : Wd WR.drew => zbb y1 (by decide) p
             have L2 := fun p : Wd WR.drew => zbb y2 (by decide) p
             have L3 := fun p : Wd WR.drew => zbb z (by decide) p
             clear zc y1 y2 z
             refine zaj [8, 10, 19] (by kernel_rfl) (by kernel_rfl) (by kernel_rfl) ?_
             repeat (first | (refine zae rfl rfl _ zaf ?_; (first | go_big_quiet_step (fail) | quiet_step (fail)); refine wpQuiet_nil ?_) | refine zag rfl ?_)
             refine zan rfl rfl rfl zbr #[.agg (en x), .agg (rc c.s.root)] rfl ?_
             refine (HFs.out _ (A.out.l.keep (zah (Below.refl _ _) 1))).mono ?_
             rintro e u ⟨rfl, g⟩
             refine ⟨_, rfl, g, ?_⟩
             simp only [Act.put, List.setIfInBounds_toArray, List.set_cons_zero, List.set_cons_succ]
             have GB : Hid (Below WR.heap.size WR u) := zab (zah (Below.refl _ _) 1) g
             clear g
             repeat (first | (refine zae rfl rfl _ zaf ?_; (first | go_big_quiet_step (fail) | quiet_step (fail)); refine wpQuiet_nil ?_) | refine zag rfl ?_)
             refine zff rfl rfl (.bool true) _ rfl (Below.refl _ _) ?_
             simp only [Act.put, List.setIfInBounds_toArray, List.set_cons_zero, List.set_cons_succ]
             repeat (first | (refine zae rfl rfl _ zaf ?_; (first | go_big_quiet_step (fail) | quiet_step (fail)); refine wpQuiet_nil ?_) | refine zag rfl ?_)
             refine za3 ?_
             clear L0 L1 L2 L3
             replace A := Lib.hid (A.out.keep GB.out)
             clear GB
             obtain ⟨w8, rfl⟩ : ∃ W : World, W = u := ⟨_, rfl⟩
             have HF : Hid (R = false) := HNo.out (fun m => by have := (m.k j (by rw [HLk.out]; exact HLT.out)).1; have := HD.out; rw [HF1.out, HC.out] at this; omega)
             go_wp2_with fail
             go_ret
             exact ⟨by rw [HF.out]; first | done | rfl, A.out.g⟩
            ·
             have t1 : decide (f < 0) = false := decide_eq_false hd
             have HD := Lib.hid hd
             clear hd
             by_cases hd : f2 < 0
             ·
              have t2 : decide (f2 < 0) = true := decide_eq_true hd
              have HD2 := Lib.hid hd
              clear hd
              have L0 := fun p : Wd WR.drew => zbc zc p
              have L1 := fun p : Wd WR.drew => zbb y1 (by decide) p
              have L2 := fun p : Wd WR.drew => zbb y2 (by decide) p
              have L3 := fun p : Wd WR.drew => zbb z (by decide) p
              clear zc y1 y2 z
              refine zaj [8, 10, 19] (by kernel_rfl) (by kernel_rfl) (by kernel_rfl) ?_
              repeat (first | (refine zae rfl rfl _ zaf ?_; (first | go_big_quiet_step (fail) | quiet_step (fail)); refine wpQuiet_nil ?_) | refine zag rfl ?_)
              refine zan rfl rfl rfl zbr #[.agg (en x), .agg (rc c.s.root)] rfl ?_
              refine (HFs.out _ (A.out.l.keep (zah (Below.refl _ _) 1))).mono ?_
              rintro e u ⟨rfl, g⟩
              refine ⟨_, rfl, g, ?_⟩
              simp only [Act.put, List.setIfInBounds_toArray, List.set_cons_zero, List.set_cons_succ]
              have GB : Hid (Below WR.heap.size WR u) := zab (zah (Below.refl _ _) 1) g
              clear g
              repeat (first | (refine zae rfl rfl _ zaf ?_; (first | go_big_quiet_step (fail) | quiet_step (fail)); refine wpQuiet_nil ?_) | refine zag rfl ?_)
              refine zff rfl rfl (.bool false) _ rfl (Below.refl _ _) ?_
              simp only [Act.put, List.setIfInBounds_toArray, List.set_cons_zero, List.set_cons_succ]
              repeat (first | (refine zae rfl rfl _ zaf ?_; (first | go_big_quiet_step (fail) | quiet_step (fail)); refine wpQuiet_nil ?_) | refine zag rfl ?_)
              refine zan rfl rfl rfl zbr #[.agg (en x), .agg (rc c.t.root)] rfl ?_
              refine (HFt.out _ (A.out.l.keep GB.out)).mono ?_
              rintro e u ⟨rfl, g⟩
              refine ⟨_, rfl, g, ?_⟩
              simp only [Act.put, List.setIfInBounds_toArray, List.set_cons_zero, List.set_cons_succ]
              replace GB : Hid (Below WR.heap.size WR u) := zab GB.out g
              clear g
              repeat (first | (refine zae rfl rfl _ zaf ?_; (first | go_big_quiet_step (fail) | quiet_step (fail)); refine wpQuiet_nil ?_) | refine zag rfl ?_)
              refine za3 ?_
              clear L0 L1 L2 L3
              replace A := Lib.hid (A.out.keep GB.out)
              clear GB
              obtain ⟨w8, rfl⟩ : ∃ W : World, W = u := ⟨_, rfl⟩
              have HF : Hid (R = false) := HNo.out (fun m => by have := (m.k j (by rw [HLk.out]; exact HLT.out)).2; have := HD2.out; rw [HF2.out, HC.out] at this; omega)
              go_wp2_with fail
              go_ret
              exact ⟨by rw [HF.out]; first | done | rfl, A.out.g⟩
             ·
              have t2 : decide (f2 < 0) = false := decide_eq_false hd
              have HD2 := Lib.hid hd
              clear hd
              have L0 := fun p : Wd WR.drew => zbc zc p
              have L1 := fun p : Wd WR.drew => zbb y1 (by decide) p
              have L2 := fun p : Wd WR.drew => zbb y2 (by decide) p
              have L3 := fun p : Wd WR.drew => zbb z (by decide) p
              clear zc y1 y2 z
              refine zaj [8, 10, 19] (by kernel_rfl) (by kernel_rfl) (by kernel_rfl) ?_
              repeat (first | (refine zae rfl rfl _ zaf ?_; (first | go_big_quiet_step (fail) | quiet_step (fail)); refine wpQuiet_nil ?_) | refine zag rfl ?_)
              refine zan rfl rfl rfl zbr #[.agg (en x), .agg (rc c.s.root)] rfl ?_
              refine (HFs.out _ (A.out.l.keep (zah (Below.refl _ _) 1))).mono ?_
              rintro e u ⟨rfl, g⟩
              refine ⟨_, rfl, g, ?_⟩
              simp only [Act.put, List.setIfInBounds_toArray, List.set_cons_zero, List.set_cons_succ]
              have GB : Hid (Below WR.heap.size WR u) := zab (zah (Below.refl _ _) 1) g
              clear g
              repeat (first | (refine zae rfl rfl _ zaf ?_; (first | go_big_quiet_step (fail) | quiet_step (fail)); refine wpQuiet_nil ?_) | refine zag rfl ?_)
              refine zff rfl rfl (.bool false) _ rfl (Below.refl _ _) ?_
              simp only [Act.put, List.setIfInBounds_toArray, List.set_cons_zero, List.set_cons_succ]
              repeat (first | (refine zae rfl rfl _ zaf ?_; (first | go_big_quiet_step (fail) | quiet_step (fail)); refine wpQuiet_nil ?_) | refine zag rfl ?_)
              refine zan rfl rfl rfl zbr #[.agg (en x), .agg (rc c.t.root)] rfl ?_
              refine (HFt.out _ (A.out.l.keep GB.out)).mono ?_
              rintro e u ⟨rfl, g⟩
              refine ⟨_, rfl, g, ?_⟩
              simp only [Act.put, List.setIfInBounds_toArray, List.set_cons_zero, List.set_cons_succ]
              replace GB : Hid (Below WR.heap.size WR u) := zab GB.out g
              clear g
              repeat (first | (refine zae rfl rfl _ zaf ?_; (first | go_big_quiet_step (fail) | quiet_step (fail)); refine wpQuiet_nil ?_) | refine zag rfl ?_)
              refine za3 ?_
              clear L0 L1 L2 L3
              replace A := Lib.hid (A.out.keep GB.out)
              clear GB
              obtain ⟨w8, rfl⟩ : ∃ W : World, W = u := ⟨_, rfl⟩
              go_wp2_with fail
              go_roundw
              case rel => exact ⟨j + 1, HLT.out, by go_num, (fun q hq => by
               rcases Nat.lt_succ_iff_lt_or_eq.1 hq with h | rfl
               ·
                exact HX.out q h
               ·
                exact ⟨by have := HD.out; rw [HF1.out, HC.out] at this; omega, by have := HD2.out; rw [HF2.out, HC.out] at this; omega⟩), A.out⟩
              case measure => simp [intOf]; have := HLT.out; omega
           ·
            obtain rfl : nk = j := by omega
            have HLink := Lib.hid HX.out
            clear hlt HX hj
            go_upto_region 30 with fail
            clear zc
            have zT := A.out.zT
            have zk := A.out.zk
            have zb := A.out.zb
            have zj := A.out.zj
            go_wp2_with fail
            refine (HMo.out _ A.out.l).mono ?_
            rintro e w9 ⟨v5, rfl, ho, g2⟩
            replace A := Lib.hid (A.out.keep g2)
            obtain ⟨L, hL⟩ : ∃ L, L = (zc3 g.t g.k g.bal g.j).length := ⟨_, rfl⟩
            obtain ⟨p5, c5, rfl⟩ := zdh ho hL.symm
            have HLm := Lib.hid hL
            clear g2 ho hL zT zk zb zj HMo
            have zT := A.out.zT
            have zk := A.out.zk
            have zb := A.out.zb
            have zf := A.out.zf
            have zj2 := A.out.zj
            rw [← HSj.out, za0] at zj2
            rw [← HSj.out, za0] at HNx
            by_cases hd : L = nj
            ·
             have t1 : ((L : Int) == (nj : Int)) = true := by rw [hd]; exact beq_self_eq_true _
             have t1b : (L == nj) = true := by rw [hd]; exact beq_self_eq_true _
             have t1c : decide (L = nj) = true := decide_eq_true hd
             have HD := Lib.hid hd
             clear hd
             obtain ⟨c, hc⟩ : ∃ c, c = znq g.t g.k g.bal g.j g.fin := ⟨_, rfl⟩
             rw [← hc] at HNx
             have HC := Lib.hid hc
             clear hc
             go_upto_region 31 with fail
             have L0 := fun p : Wd w9.drew => zbb zT (by decide) p
             have L1 := fun p : Wd w9.drew => zbc zk p
             have L2 := fun p : Wd w9.drew => zbc zb p
             have L3 := fun p : Wd w9.drew => zbb zf (by decide) p
             have L4 := fun p : Wd w9.drew => zbc zj2 p
             clear zT zk zb zf zj2
             refine zaj [17] (by kernel_rfl) (by kernel_rfl) (by kernel_rfl) ?_
             repeat (first | (refine zae rfl rfl _ zaf ?_; (first | go_big_quiet_step (fail) | quiet_step (fail)); refine wpQuiet_nil ?_) | refine zag rfl ?_)
             refine zan rfl rfl rfl zlc #[.agg (tr ⟨x.t.n⟩), sv x.k, sv x.bal, .slice pj nj cj, .agg (cc g.fin)] rfl ?_
             refine (HNx.out _ (A.out.l.keep (zah (Below.refl _ _) 1))).mono ?_
             rintro e u ⟨rfl, g⟩
             refine ⟨_, rfl, g, ?_⟩
             simp only [Act.put, List.setIfInBounds_toArray, List.set_cons_zero, List.set_cons_succ]
             have GB : Hid (Below w9.heap.size w9 u) := zab (zah (Below.refl _ _) 1) g
             clear g
             repeat (first | (refine zae rfl rfl _ zaf ?_; (first | go_big_quiet_step (fail) | quiet_step (fail)); refine wpQuiet_nil ?_) | refine zag rfl ?_)
             refine za3 ?_
             clear L0 L1 L2 L3 L4
             replace A := Lib.hid (A.out.keep GB.out)
             clear GB
             obtain ⟨w10, rfl⟩ : ∃ W : World, W = u := ⟨_, rfl⟩
             have HF : Hid (R = decide (c = g.fin)) := by
              show R = _
              rw [Bool.eq_iff_iff, decide_eq_true_iff]
              refine ⟨fun e => by rw [HC.out]; exact (HR.out.1 e).n, fun e => HR.out.2 ⟨HB1.out, of_decide_eq_true HB2.out, of_decide_eq_true HB3.out, fun i hi => HLate.out i (by rw [← HLl.out]; exact hi), fun i hi => HJust.out i (by rw [← HLj.out]; exact hi), fun i hi => HVote.out i (by rw [← HLv.out]; exact hi), fun i hi => HLink.out i (by rw [← HLk.out]; exact hi), by rw [← HLm.out, HLj.out]; exact HD.out, by rw [← HC.out]; exact e⟩⟩
             go_wp2_with fail
             go_ret
             exact ⟨by rw [HF.out]; first | done | rfl, A.out.g⟩
            ·
             have t1 : ((L : Int) == (nj : Int)) = false := by rw [beq_eq_false_iff_ne]; omega
             have t1b : (L == nj) = false := by rw [beq_eq_false_iff_ne]; exact hd
             have t1c : decide (L = nj) = false := decide_eq_false hd
             have HD := Lib.hid hd
             clear hd
             go_upto_region 31 with fail
             have L0 := fun p : Wd w9.drew => zbb zT (by decide) p
             have L1 := fun p : Wd w9.drew => zbc zk p
             have L2 := fun p : Wd w9.drew => zbc zb p
             have L3 := fun p : Wd w9.drew => zbb zf (by decide) p
             have L4 := fun p : Wd w9.drew => zbc zj2 p
             clear zT zk zb zf zj2
             refine zaj [17] (by kernel_rfl) (by kernel_rfl) (by kernel_rfl) ?_
             repeat (first | (refine zae rfl rfl _ zaf ?_; (first | go_big_quiet_step (fail) | quiet_step (fail)); refine wpQuiet_nil ?_) | refine zag rfl ?_)
             refine za3 ?_
             clear L0 L1 L2 L3 L4
             replace A := Lib.hid (A.out.keep (show Below w9.heap.size w9 w9.drew from zah (Below.refl _ _) 1))
             generalize w9.drew = w10 at *
             have HF : Hid (R = false) := HNo.out (fun m => by have := m.m; rw [← HLm.out, HLj.out] at this; exact HD.out this)
             go_wp2_with fail
             go_ret
             exact ⟨by rw [HF.out]; first | done | rfl, A.out.g⟩
end Go.Proofs.YtkalofboioffiaaGreat
