import Derived.Test.YtkalofboioffiaaGreatT11
namespace Go.Proofs.YtkalofboioffiaaGreat
open Go.RowKit
set_option maxRecDepth 200000
set_option maxHeartbeats 64000000
theorem ymg (s : SlV) (l : List Nd) (i : Int) (q : UInt64) (w : World) (h : SlE Ene w (sv s) l) (hn : l.length ≤ 1000) :
  Calls Tryz.prog 40 #[.agg (tr ⟨s⟩), .int .i64 i, .int .u64 (q.toNat : Int)] w fun e w' => e = .returned (.int .i64 (atZ l i q.toNat)) ∧ Below w.heap.size w w' := by
 have HI := Lib.hid (fun W (g : Below w.heap.size w W) => yce s l i W (zad g h) hn)
 have HL := Lib.hid (zbk h)
 obtain ⟨p, n, cp⟩ := s
 dsimp only at HL
 obtain ⟨x, hx⟩ : ∃ x, x = atZ l i q.toNat := ⟨_, rfl⟩
 rw [← hx]
 have HX := Lib.hid hx
 obtain ⟨a, ha⟩ : ∃ a, a = isT l i := ⟨_, rfl⟩
 rw [← ha] at HI
 obtain ⟨W0, hW0⟩ : ∃ W0, W0 = w.alloc (.cells (tr ⟨⟨p, n, cp⟩⟩) 24) := ⟨_, rfl⟩
 have HB : Hid (Below w.heap.size w W0) := by rw [hW0]; exact below1
 have M0 : Hid (W0.heap[w.heap.size]? = some (.cells (tr ⟨⟨p, n, cp⟩⟩) 24 (0, 0))) := by rw [hW0]; exact heap_alloc_last w _
 have HS := Lib.hid h
 have HW := Lib.hid hW0
 have HA := Lib.hid ha
 clear hW0 h hn hx ha
 go_enter Tryz.func40, Tryz.ntmps40
 go_wp2_with fail
 rw [← HW.out]
 refine (HI.out W0 HB.out).mono ?_
 rintro e w1 ⟨rfl, g1⟩
 have G1 := Lib.hid (zab HB.out g1)
 obtain ⟨z0, z1, zl⟩ := zai (zac g1 M0.out)
 dsimp only at z0
 rw [za0] at z0
 clear g1
 cases a
 ·
  have hX : Hid (x = -1) := by show x = -1; rw [HX.out]; unfold atZ; rw [← HA.out]; rfl
  go_wp2_with fail
  go_ret
  exact ⟨by rw [hX.out]; first | done | rfl, G1.out⟩
 ·
  obtain ⟨hm, hi0, hi1⟩ := zb2.1 HA.out.symm
  obtain ⟨i', rfl⟩ : ∃ i' : Nat, i = i' := ⟨i.toNat, by omega⟩
  have HX' : Hid (x = atT l i' q.toNat) := by show x = _; rw [HX.out, zma hm (by omega)]
  have HM := Lib.hid hm
  have HI1 : Hid (i' < n) := by show i' < n; have := HL.out; omega
  clear hi0 hi1 HX HA HI
  obtain ⟨b1, o1, rfl, q1, x1⟩ := zcj HS.out hm.pos
  have X1 := Lib.hid (zbu G1.out x1)
  clear hm x1
  go_wp2_with fail
  go_loop [1] (fun v => ∃ m : Nat, m ≤ n ∧ v = .int .i64 ((m : Int) - 1) ∧ (if m = 0 then -1 else atT l (m - 1) q.toNat) = atT l i' q.toNat) (fun v => (intOf v + 1).toNat)
  case atStart => exact ⟨i' + 1, HI1.out, by rw [show ((i' + 1 : Nat) : Int) - 1 = (i' : Int) by omega], by rw [if_neg (Nat.succ_ne_zero _), Nat.add_sub_cancel]⟩
  case round =>
   obtain ⟨m, hmn, rfl, hab⟩ := hrel
   have HAB := Lib.hid hab
   have HMN := Lib.hid hmn
   clear hab hmn
   by_cases h0 : m = 0
   ·
    subst h0
    have hX : Hid (x = -1) := by show x = -1; rw [HX'.out, ← HAB.out]; rfl
    rw [show (((0 : Nat) : Int) - 1) = -1 from rfl]
    go_wp2_with fail
    go_ret
    exact ⟨by rw [hX.out]; first | done | rfl, G1.out⟩
   ·
    obtain ⟨k, rfl⟩ : ∃ k, m = k + 1 := ⟨m - 1, by omega⟩
    rw [show (((k + 1 : Nat) : Int) - 1) = (k : Int) by omega]
    have HAB' : Hid (atT l k q.toNat = atT l i' q.toNat) := by have := HAB.out; rw [if_neg h0, Nat.add_sub_cancel] at this; exact this
    have HKN : Hid (k < n) := HMN.out
    clear HAB HMN h0
    have u1 : (k : Int) < (n : Int) := by have := HKN.out; omega
    have u2 : (0 : Int) ≤ (k : Int) := by omega
    have y1 := zga X1.out (i := k) (by have := HL.out; have := HKN.out; omega)
    have y2 := zhm X1.out (i := k) (by have := HL.out; have := HKN.out; omega)
    by_cases hs : q.toNat < sl l k
    ·
     have t1 : decide ((q.toNat : Int) < ((nd l k).slot.toNat : Int)) = true := by rw [decide_eq_true_iff]; unfold sl at hs; omega
     have t1' : decide (q.toNat < (nd l k).slot.toNat) = true := decide_eq_true hs
     by_cases hk : k = 0
     ·
      subst hk
      rw [HM.out.first] at y1
      have HR : Hid (-1 = atT l i' q.toNat) := by show _ = _; rw [← HAB'.out, zqq, if_neg (by omega)]
      clear hs
      go_wp2_with fail
      go_round
      case rel => exact ⟨0, Nat.zero_le _, rfl, HR.out⟩
      case measure => simp [intOf]
     ·
      obtain ⟨hp, hu, _⟩ := HM.out.par (k := k) (by omega) (by have := HL.out; have := HKN.out; omega)
      rw [hp] at y1
      have HU := Lib.hid hu
      have HR : Hid (atT l (up l k) q.toNat = atT l i' q.toNat) := by show _ = _; rw [← HAB'.out, z3z HM.out q.toNat (k := k) (by omega) (by have := HL.out; have := HKN.out; omega), if_neg (by omega)]
      clear hs hk hp hu
      go_wp2_with fail
      go_round
      case rel => exact ⟨up l k + 1, by have := HU.out; have := HKN.out; omega, by rw [show ((up l k + 1 : Nat) : Int) - 1 = (up l k : Int) by omega], by rw [if_neg (Nat.succ_ne_zero _), Nat.add_sub_cancel]; exact HR.out⟩
      case measure => have := HU.out; simp [intOf]; omega
    ·
     have t1 : decide ((q.toNat : Int) < ((nd l k).slot.toNat : Int)) = false := by rw [decide_eq_false_iff_not]; unfold sl at hs; omega
     have t1' : decide (q.toNat < (nd l k).slot.toNat) = false := decide_eq_false hs
     have hX : Hid (x = (k : Int)) := by show x = _; rw [HX'.out, ← HAB'.out, z3x HM.out (by have := HL.out; have := HKN.out; omega) (by omega)]
     clear hs
     go_wp2_with fail
     go_ret
     exact ⟨by rw [hX.out]; first | done | rfl, G1.out⟩
theorem ycd (x : Sn) (s : Sg) (c : Cl) (w : World) (h : LaidS w x s) (hn : s.t.length ≤ 1000) :
  Calls Tryz.prog 18 #[.agg (sn x), .agg (cl c)] w fun e w' => e = .returned (.agg (rs (rsOf (askN s c.kind c.a c.b c.slot.toNat)))) ∧ Below w.heap.size w w' := by
 obtain ⟨W0, hW0⟩ : ∃ W0, W0 = ((w.alloc (.cells (sn x) 40)).alloc (.cells (cl c) 43)).alloc (.cells (rs zrs) 51) := ⟨_, rfl⟩
 obtain ⟨hB, q0, q1, q2, _⟩ := zf2 w _ _ _ _ _ _ W0 hW0
 have A : Hid (Sw w W0 w.heap.size x s) := ⟨q0, h.keep hB, hB⟩
 have MC : Hid (W0.heap[w.heap.size + 1]? = some (.cells (cl c) 43 (0, 0))) := q1
 have MR : Hid (W0.heap[w.heap.size + 1 + 1]? = some (.cells (rs zrs) 51 (0, 0))) := q2
 have HW := Lib.hid hW0
 have HM := Lib.hid (fun W hh => zzl x s W hh hn)
 have HF1 := Lib.hid (fun W hh => zg6 x.t.n s.t c.a W hh hn)
 have HF2 := Lib.hid (fun W hh => zg6 x.t.n s.t c.b W hh hn)
 have HAt := Lib.hid (fun i W hh => ymg x.t.n s.t i c.slot W hh hn)
 have HAb := Lib.hid (fun i k W hh => zgc x.t.n s.t i k W hh hn)
 obtain ⟨m, hm⟩ : ∃ m, m = mayN s := ⟨_, rfl⟩
 obtain ⟨a, ha⟩ : ∃ a, a = zaz s.t c.a := ⟨_, rfl⟩
 obtain ⟨b, hb⟩ : ∃ b, b = zaz s.t c.b := ⟨_, rfl⟩
 obtain ⟨R, hR⟩ : ∃ R, R = rsOf (askN s c.kind c.a c.b c.slot.toNat) := ⟨_, rfl⟩
 rw [← hR]
 rw [← hm] at HM
 rw [← ha] at HF1
 rw [← hb] at HF2
 have HR := Lib.hid hR
 have HMy := Lib.hid hm.symm
 have HA := Lib.hid ha
 have HB := Lib.hid hb
 clear hW0 hB q0 q1 q2 h hn hm ha hb hR
 go_enter Tryz.func18, Tryz.ntmps18
 go_upto_region 1 with fail
 rw [← HW.out]
 have z := A.out.z
 go_wp2_with fail
 refine (HM.out _ A.out.l).mono ?_
 rintro e w1 ⟨rfl, g⟩
 replace A := Lib.hid (A.out.keep g)
 replace MC := Lib.hid (zac g MC.out)
 replace MR := Lib.hid (zac g MR.out)
 clear g z HM HW
 cases m
 ·
  have e1 := HR.out
  unfold askN at e1
  rw [if_neg (by rw [HMy.out]; exact Bool.false_ne_true)] at e1
  obtain rfl : R = ⟨1, zr, false, zcc⟩ := by rw [e1]; rfl
  have yw := zau MR.out (zap _)
  go_wp2_with fail
  exact bodyPost_ret (zao Tryz.isAgg51 Tryz.sizeOf51 _ 4 rfl _ _ _ _ rfl (za4 MR.out (zap _) (zap _))) rfl ⟨rfl, zas A.out.g (by omega)⟩
 ·
  have zT := A.out.zT
  have c2 := zqs MC.out
  go_wp2_with fail
  refine (HF1.out _ A.out.l.t).mono ?_
  rintro e w2 ⟨rfl, g⟩
  replace A := Lib.hid (A.out.keep g)
  replace MC := Lib.hid (zac g MC.out)
  replace MR := Lib.hid (zac g MR.out)
  clear g zT c2 HF1
  have zT := A.out.zT
  have c3 := zyf MC.out
  go_wp2_with fail
  refine (HF2.out _ A.out.l.t).mono ?_
  rintro e w3 ⟨rfl, g⟩
  replace A := Lib.hid (A.out.keep g)
  replace MC := Lib.hid (zac g MC.out)
  replace MR := Lib.hid (zac g MR.out)
  clear g zT c3 HF2
  have c1 := zmi MC.out
  have hask := HR.out
  rw [zl9 HMy.out] at hask
  by_cases h5 : c.kind = 5
  ·
   have k5 : decide (c.kind = 5) = true := decide_eq_true h5
   have k5b : (c.kind == 5) = true := by rw [h5]; rfl
   rw [if_pos h5] at hask
   have zh := A.out.zh
   clear h5
   obtain rfl : R = ⟨0, s.head, false, zcc⟩ := by rw [hask]; rfl
   have yw := zau MR.out (zap _)
   go_wp2_with fail
   exact bodyPost_ret (zao Tryz.isAgg51 Tryz.sizeOf51 _ 4 rfl _ _ _ _ rfl (za4 MR.out (zap _) (zap _))) rfl ⟨rfl, zas A.out.g (by omega)⟩
  ·
   have k5 : decide (c.kind = 5) = false := decide_eq_false h5
   have k5b : (c.kind == 5) = false := by rw [beq_eq_false_iff_ne]; exact h5
   rw [if_neg h5] at hask
   by_cases h8 : c.kind = 8
   ·
    have k8 : decide (c.kind = 8) = true := decide_eq_true h8
    have k8b : (c.kind == 8) = true := by rw [h8]; rfl
    rw [if_pos h8] at hask
    have zf := A.out.zf
    clear h5 h8
    obtain rfl : R = ⟨0, zr, false, s.fin⟩ := by rw [hask]; rfl
    have yw := zau MR.out (zap _)
    go_wp2_with fail
    exact bodyPost_ret (zao Tryz.isAgg51 Tryz.sizeOf51 _ 4 rfl _ _ _ _ rfl (za4 MR.out (zap _) (zap _))) rfl ⟨rfl, zas A.out.g (by omega)⟩
   ·
    have k8 : decide (c.kind = 8) = false := decide_eq_false h8
    have k8b : (c.kind == 8) = false := by rw [beq_eq_false_iff_ne]; exact h8
    rw [if_neg h8] at hask
    by_cases h6 : c.kind = 6
    ·
     have k6 : decide (c.kind = 6) = true := decide_eq_true h6
     have k6b : (c.kind == 6) = true := by rw [h6]; rfl
     have q := z3w HMy.out c.a c.b c.slot.toNat
     have hask2 := HR.out
     rw [h6] at hask2
     skip
     rcases q with ⟨q1, q2⟩ | ⟨i, q1, q2, q3⟩
     ·
      rw [q2] at hask2
      obtain rfl : a = -1 := HA.out.trans q1
      clear h5 h8 h6 hask q1 q2
      obtain rfl : R = ⟨5, zr, false, zcc⟩ := by rw [hask2]; rfl
      have yw := zau MR.out (zap _)
      go_wp2_with fail
      exact bodyPost_ret (zao Tryz.isAgg51 Tryz.sizeOf51 _ 4 rfl _ _ _ _ rfl (za4 MR.out (zap _) (zap _))) rfl ⟨rfl, zas A.out.g (by omega)⟩
     ·
      obtain rfl : a = (i : Int) := HA.out.trans q2
      have t1 : decide ((i : Int) < 0) = false := decide_eq_false (by omega)
      have HAi := Lib.hid (HAt.out (i : Int))
      rw [zma (zp7 HMy.out) q1] at HAi
      have zT := A.out.zT
      have c4 := zmj MC.out
      rcases q3 with ⟨q4, q5, _⟩ | ⟨q, q4, q5, _, _, q6⟩
      ·
       rw [q5] at hask2
       rw [q4] at HAi
       clear h5 h8 h6 hask q1 q2 q4 q5
       go_wp2_with fail
       refine (HAi.out _ A.out.l.t).mono ?_
       rintro e w4 ⟨rfl, g⟩
       replace A := Lib.hid (A.out.keep g)
       replace MC := Lib.hid (zac g MC.out)
       replace MR := Lib.hid (zac g MR.out)
       clear g zT c4
       obtain rfl : R = ⟨8, zr, false, zcc⟩ := by rw [hask2]; rfl
       have yw := zau MR.out (zap _)
       go_wp2_with fail
       exact bodyPost_ret (zao Tryz.isAgg51 Tryz.sizeOf51 _ 4 rfl _ _ _ _ rfl (za4 MR.out (zap _) (zap _))) rfl ⟨rfl, zas A.out.g (by omega)⟩
      ·
       rw [q6] at hask2
       rw [q4] at HAi
       have Q5 := Lib.hid q5
       clear h5 h8 h6 hask q1 q2 q4 q5 q6
       go_wp2_with fail
       refine (HAi.out _ A.out.l.t).mono ?_
       rintro e w4 ⟨rfl, g⟩
       replace A := Lib.hid (A.out.keep g)
       replace MC := Lib.hid (zac g MC.out)
       replace MR := Lib.hid (zac g MR.out)
       clear g zT c4
       obtain ⟨⟨pt, nt, ct⟩, hst⟩ : ∃ s : SlV, s = x.t.n := ⟨_, rfl⟩
       have hnt := zd8 A.out.l.t
       rw [← hst] at hnt
       have HNt : Hid (s.t.length = nt) := hnt
       have zt := A.out.zt
       rw [← hst, za0] at zt
       have hs := A.out.l.t
       rw [← hst, za0] at hs
       obtain ⟨bq, oq, hpq, _, qq⟩ := zcj hs (by have := Q5.out; omega)
       subst hpq
       have yq := zdf qq (i := q) Q5.out
       have q4 := Q5.out
       rw [HNt.out] at q4
       have i0 : (0 : Int) ≤ (q : Int) := by omega
       have i1 : (q : Int) < (nt : Int) := by omega
       have t2 : decide ((q : Int) < 0) = false := decide_eq_false (by omega)
       clear hst hnt hs qq q4
       obtain rfl : R = ⟨0, (nd s.t q).root, false, zcc⟩ := by rw [hask2]; rfl
       have yw := zau MR.out (zap _)
       go_wp2_with fail
       exact bodyPost_ret (zao Tryz.isAgg51 Tryz.sizeOf51 _ 4 rfl _ _ _ _ rfl (za4 MR.out (zap _) (zap _))) rfl ⟨rfl, zas A.out.g (by omega)⟩
    ·
     have k6 : decide (c.kind = 6) = false := decide_eq_false h6
     have k6b : (c.kind == 6) = false := by rw [beq_eq_false_iff_ne]; exact h6
     rw [if_neg h6] at hask
     by_cases h7 : c.kind = 7
     ·
      have k7 : decide (c.kind = 7) = true := decide_eq_true h7
      have k7b : (c.kind == 7) = true := by rw [h7]; rfl
      have q := zya HMy.out c.a c.b c.slot.toNat
      have hask2 := HR.out
      rw [h7] at hask2
      rcases q with ⟨q1, q2⟩ | ⟨i, k, q1, q2, q3, q4, q5⟩
      ·
       rw [q2] at hask2
       rw [← HA.out, ← HB.out] at q1
       by_cases ha : a < 0
       ·
        have t1 : decide (a < 0) = true := decide_eq_true ha
        clear h5 h8 h6 h7 hask q1 q2 ha
        obtain rfl : R = ⟨5, zr, false, zcc⟩ := by rw [hask2]; rfl
        have yw := zau MR.out (zap _)
        go_wp2_with fail
        exact bodyPost_ret (zao Tryz.isAgg51 Tryz.sizeOf51 _ 4 rfl _ _ _ _ rfl (za4 MR.out (zap _) (zap _))) rfl ⟨rfl, zas A.out.g (by omega)⟩
       ·
        have t1 : decide (a < 0) = false := decide_eq_false ha
        have t2 : decide (b < 0) = true := decide_eq_true (by omega)
        clear h5 h8 h6 h7 hask q1 q2 ha
        obtain rfl : R = ⟨5, zr, false, zcc⟩ := by rw [hask2]; rfl
        have yw := zau MR.out (zap _)
        go_wp2_with fail
        exact bodyPost_ret (zao Tryz.isAgg51 Tryz.sizeOf51 _ 4 rfl _ _ _ _ rfl (za4 MR.out (zap _) (zap _))) rfl ⟨rfl, zas A.out.g (by omega)⟩
      ·
       obtain rfl : a = (i : Int) := HA.out.trans q3
       obtain rfl : b = (k : Int) := HB.out.trans q4
       rw [q5] at hask2
       have t1 : decide ((i : Int) < 0) = false := decide_eq_false (by omega)
       have t2 : decide ((k : Int) < 0) = false := decide_eq_false (by omega)
       have HAi := Lib.hid (HAb.out (i : Int) (k : Int))
       rw [zdn (zp7 HMy.out) q1 q2] at HAi
       have zT := A.out.zT
       clear h5 h8 h6 h7 hask q1 q2 q3 q4 q5
       obtain ⟨d, hd⟩ : ∃ d, d = zat s.t i k := ⟨_, rfl⟩
       rw [← hd] at HAi hask2
       clear hd
       go_wp2_with fail
       refine (HAi.out _ A.out.l.t).mono ?_
       rintro e w4 ⟨rfl, g⟩
       replace A := Lib.hid (A.out.keep g)
       replace MC := Lib.hid (zac g MC.out)
       replace MR := Lib.hid (zac g MR.out)
       clear g zT HAi
       obtain rfl : R = ⟨0, zr, d, zcc⟩ := by rw [hask2]; rfl
       have yw := zau MR.out (zap _)
       go_wp2_with fail
       exact bodyPost_ret (zao Tryz.isAgg51 Tryz.sizeOf51 _ 4 rfl _ _ _ _ rfl (za4 MR.out (zap _) (zap _))) rfl ⟨rfl, zas A.out.g (by omega)⟩
     ·
      have k7 : decide (c.kind = 7) = false := decide_eq_false h7
      have k7b : (c.kind == 7) = false := by rw [beq_eq_false_iff_ne]; exact h7
      rw [if_neg h7] at hask
      clear h5 h8 h6 h7
      obtain rfl : R = ⟨1, zr, false, zcc⟩ := by rw [hask]; rfl
      have yw := zau MR.out (zap _)
      go_wp2_with fail
      exact bodyPost_ret (zao Tryz.isAgg51 Tryz.sizeOf51 _ 4 rfl _ _ _ _ rfl (za4 MR.out (zap _) (zap _))) rfl ⟨rfl, zas A.out.g (by omega)⟩
theorem zms : ∀ args w, (callFunc 18 args).run Tryz.prog w = .ok (.enter 18 args) w := za7 Tryz.func18 (by kernel_rfl) (by kernel_rfl)
theorem z2c (p : Option Addr) (n cp : Nat) (l : List UInt64) (w : World) (h : SlE Enum w (.slice p n cp) l) (hl : l.length = n) (hn : n ≤ 1152921504606846976) :
  Calls Tryz.prog 105 #[.slice p n cp] w fun e w' => e = .returned (.bool (mayB l)) ∧ Below w.heap.size w w' := by
 have HS := Lib.hid h
 have HL := Lib.hid hl
 have HN := Lib.hid hn
 obtain ⟨r, hr⟩ : ∃ r, r = mayB l := ⟨_, rfl⟩
 rw [← hr]
 have HR := Lib.hid hr
 clear h hl hn hr
 go_enter Tryz.func105, Tryz.ntmps105
 go_wp2_with fail
 go_loopw [3] (fun i wr => ∃ j : Nat, j ≤ n ∧ i = .int .i64 (j : Int) ∧ (∀ x, x < j → fn l x ≤ 1099511627776) ∧ wr = w) (fun i _ => n - (intOf i).toNat)
 case atStart => exact ⟨0, Nat.zero_le _, rfl, fun x hx => absurd hx (Nat.not_lt_zero _), rfl⟩
 case round =>
  obtain ⟨j, hj, rfl, hx, rfl⟩ := hrel
  have HX := Lib.hid hx
  clear hx
  by_cases hlt : j < n
  ·
   have i0 : (0 : Int) ≤ (j : Int) := by omega
   have i1 : (j : Int) < (n : Int) := by omega
   have u1 : (j : Int) + 1 < 1152921504606846980 := by have := HN.out; omega
   obtain ⟨b1, o1, rfl, q1, x1⟩ := zcm HS.out (by have := HL.out; omega)
   have y1 := zbt x1 (i := j) (by have := HL.out; omega)
   have HLT := Lib.hid hlt
   obtain ⟨y, hy⟩ : ∃ y, y = fn l j := ⟨_, rfl⟩
   rw [← hy] at y1
   have HY := Lib.hid hy
   clear x1 q1 hlt hy
   by_cases hb : 1099511627776 < y
   ·
    have t0 : decide ((1099511627776 : Int) < (y : Int)) = true := decide_eq_true (by omega)
    have t0' : decide (1099511627776 < y) = true := decide_eq_true hb
    have hF : Hid (r = false) := by show r = false; rw [HR.out, ← Bool.not_eq_true]; intro e; have := (zb7.1 e).2.2 j (by rw [HL.out]; exact HLT.out); rw [← HY.out] at this; omega
    clear hb
    go_wp2_with fail
    go_ret
    exact ⟨by rw [hF.out]; first | done | rfl, Below.refl _ _⟩
   ·
    have t0 : decide ((1099511627776 : Int) < (y : Int)) = false := decide_eq_false (by omega)
    have t0' : decide (1099511627776 < y) = false := decide_eq_false hb
    have HB : Hid (y ≤ 1099511627776) := by show _ ≤ _; omega
    clear hb
    go_wp2_with fail
    go_roundw
    case rel => exact ⟨j + 1, HLT.out, by go_num, (fun x hx => by
     rcases Nat.lt_succ_iff_lt_or_eq.1 hx with h | rfl
     ·
      exact HX.out x h
     ·
      rw [← HY.out]; exact HB.out), by first | rfl | trivial⟩
    case measure => simp [intOf]; have := HLT.out; omega
  ·
   obtain rfl : j = n := by omega
   clear hlt
   by_cases h1 : 1 ≤ j
   ·
    have t1 : decide ((1 : Int) ≤ (j : Int)) = true := decide_eq_true (by omega)
    have t1' : decide (1 ≤ j) = true := decide_eq_true h1
    by_cases h8 : j ≤ 8
    ·
     have t2 : decide ((j : Int) ≤ 8) = true := decide_eq_true (by omega)
     have t2' : decide (j ≤ 8) = true := decide_eq_true h8
     have hF : Hid (r = true) := by show r = true; rw [HR.out]; exact zb7.2 ⟨by rw [HL.out]; exact h1, by rw [HL.out]; exact h8, fun i hi => HX.out i (by rw [← HL.out]; exact hi)⟩
     clear h1 h8
     go_wp2_with fail
     go_ret
     exact ⟨by rw [hF.out]; first | done | rfl, Below.refl _ _⟩
    ·
     have t2 : decide ((j : Int) ≤ 8) = false := decide_eq_false (by omega)
     have t2' : decide (j ≤ 8) = false := decide_eq_false h8
     have hF : Hid (r = false) := by show r = false; rw [HR.out, ← Bool.not_eq_true]; intro e; have := (zb7.1 e).2.1; rw [HL.out] at this; omega
     clear h1 h8
     go_wp2_with fail
     go_ret
     exact ⟨by rw [hF.out]; first | done | rfl, Below.refl _ _⟩
   ·
    have t1 : decide ((1 : Int) ≤ (j : Int)) = false := decide_eq_false (by omega)
    have t1' : decide (1 ≤ j) = false := decide_eq_false h1
    have hF : Hid (r = false) := by show r = false; rw [HR.out, ← Bool.not_eq_true]; intro e; have := (zb7.1 e).1; rw [HL.out] at this; omega
    clear h1
    go_wp2_with fail
    go_ret
    exact ⟨by rw [hF.out]; first | done | rfl, Below.refl _ _⟩
theorem zjm (v : Value) (l : List UInt64) (w : World) (h : SlE Enum w v l) (hn : l.length ≤ 1152921504606846976) :
  Calls Tryz.prog 105 #[v] w fun e w' => e = .returned (.bool (mayB l)) ∧ Below w.heap.size w w' := by
 have k := h
 obtain ⟨p, cp, rfl, _⟩ := zal h
 exact z2c p _ cp l w k rfl hn
open Go.RowKit
section
variable {α : Type} {E : Lie α}
theorem zpb (l : List α) {i : Nat} (hi : i < l.length) : zaq E l = zaq E (l.take i) ++ (E.enc l[i] ++ zaq E (l.drop (i + 1))) := by
 conv => lhs; rw [← List.take_append_drop i l]
 rw [zdc, List.drop_eq_getElem_cons hi, zc1]
theorem z0c (l : List α) {i : Nat} (hi : i < l.length) (x : α) : zaq E (l.set i x) = zaq E (l.take i) ++ (E.enc x ++ zaq E (l.drop (i + 1))) := by
 rw [zpb (l.set i x) (i := i) (by rw [List.length_set]; exact hi), List.take_set_of_le (Nat.le_refl _), List.getElem_set_self, List.drop_set_of_lt (by omega)]
theorem z61 {w : World} {base g n cap : Nat} {l : List α} (h : OwnE E w base (.slice (some ⟨g, 0, none⟩) n cap) l) (hl : l.length = n) {i : Nat} (hi : i < n) : wrA w (.pointer (some ⟨g, 0 + i * E.n, none⟩)) E.n = true := by
 subst hl
 obtain ⟨b, off, c, e, _, _, x⟩ := zcz (za2 h) (by omega)
 injection e with e _ _
 injection e with e
 injection e with e1 e2
 subst e1 e2
 refine zd3.2 fun j hj => ⟨?_, ?_⟩
 ·
  have hc : (E.enc l[i])[j]? = some ((E.enc l[i])[j]'(by rw [E.len]; exact hj)) := List.getElem?_eq_getElem _
  rw [zqr x hi hc]
  rfl
 ·
  exact World.ownsRow.frozenAt h _
end
theorem zf5 {w : World} {p : Option Addr} {n cp : Nat} {l : List Lt} (h : SlE Elt w (.slice p n cp) l) (h0 : 0 < l.length) : ∃ b o, p = some ⟨b, o, none⟩ ∧ b < w.heap.size ∧ w.rangeAt b o (zaq Elt l) := by
 obtain ⟨b, o, c, e, _, q, x⟩ := zcz h h0
 injection e with e1 e2 e3
 exact ⟨b, o, e1, q, x⟩
theorem znf {w : World} {b off : Nat} {l : List Lt} (h : w.rangeAt b off (zaq Elt l)) {i : Nat} (hi : i < l.length) : ldA w (.pointer (some ⟨b, off + i * 34, none⟩)) 34 = some (lt (lat l i)) := by
 have := zp0 h hi
 rw [z5s hi]
 exact this.trans (by rw [show (Elt.enc l[i]).toArray = lt l[i] from Array.toList_inj.1 (by rw [zwi]; rfl)])
theorem zrc {w : World} {b off : Nat} {l : List Lt} (h : w.rangeAt b off (zaq Elt l)) {i : Nat} (hi : i < l.length) : w.cell? ⟨b, off + i * 34, none⟩ = some (.bool (lat l i).has) := by
 have := ztz (zdi h hi)
 rw [z5s hi]
 exact this
theorem ztk {w : World} {b off : Nat} {l : List Lt} (h : w.rangeAt b off (zaq Elt l)) {i : Nat} (hi : i < l.length) : ldA w (.pointer (some ⟨b, off + i * 34 + 1, none⟩)) 32 = some (rc (lat l i).root) := by
 have := zp6 (zdi h hi)
 rw [z5s hi]
 exact this
theorem zf8 {w : World} {g : Nat} {x : Lt} (h : w.heap[g]? = some (.cells (lt x) 115 (0, 0))) : w.cell? ⟨g, 0, none⟩ = some (.bool x.has) ∧ ldA w (.pointer (some ⟨g, 1, none⟩)) 32 = some (rc x.root) ∧ w.cell? ⟨g, 33, none⟩ = some (.int .u64 (x.epoch.toNat : Int)) ∧ ldA w (.pointer (some ⟨g, 0, none⟩)) 34 = some (lt x) ∧ g < w.heap.size :=
 ⟨zp5 h, znl h, zty h, zar h (zrh x), (Array.getElem?_eq_some_iff.1 h).1⟩
theorem zbo {w : World} {g : Nat} {x : Vo} (h : w.heap[g]? = some (.cells (vo x) 29 (0, 0))) : w.cell? ⟨g, 0, none⟩ = some (sv x.l) ∧ w.cell? ⟨g, 1, none⟩ = some (.int .u64 (x.out.toNat : Int)) ∧ ldA w (.pointer (some ⟨g, 0, none⟩)) 2 = some (vo x) ∧ g < w.heap.size :=
 ⟨yc5 h, z3d h, zar h (zcp x), (Array.getElem?_eq_some_iff.1 h).1⟩
theorem zg8 {w : World} {s : SlV} {l : List Lt} (h : SlE Elt w (sv s) l) : l.length = s.len := by
 obtain ⟨p', cap', e, _⟩ := zal h
 unfold sv at e; injection e with _ e; exact e.symm
def VoOk (v : Vt) (b : Bool) (w : World) (e : Ending) (w' : World) : Prop := ∃ s : SlV, e = .returned (.tuple #[.agg (vo ⟨s, v.out⟩), .bool b]) ∧ SlE Elt w' (sv s) v.l ∧ Below w.heap.size w w'
theorem yb7 (v : Int) (w : World) :
  Calls Tryz.prog 173 #[.int .i64 v] w fun e w' => e = .returned (.int .u64 (bitN v : Int)) ∧ Below w.heap.size w w' := by
 by_cases h0 : v < 0
 ·
  have t0 : decide (v < 0) = true := decide_eq_true h0
  rw [show bitN v = 0 from if_neg (by omega)]
  clear h0
  go_enter Tryz.func173, Tryz.ntmps173
  go_wp2_with fail
  go_ret
  exact ⟨rfl, Below.refl _ _⟩
 ·
  have t0 : decide (v < 0) = false := decide_eq_false h0
  by_cases h1 : 63 < v
  ·
   have t1 : decide (63 < v) = true := decide_eq_true h1
   rw [show bitN v = 0 from if_neg (by omega)]
   clear h0 h1
   go_enter Tryz.func173, Tryz.ntmps173
   go_wp2_with fail
   go_ret
   exact ⟨rfl, Below.refl _ _⟩
  ·
   have t1 : decide (63 < v) = false := decide_eq_false h1
   obtain ⟨n, rfl⟩ : ∃ n : Nat, v = n := ⟨v.toNat, by omega⟩
   have hn : n < 64 := by omega
   rw [zip hn]
   have HN := Lib.hid hn
   obtain ⟨P, hP⟩ : ∃ P : Nat → Nat, P = fun j => 2 ^ j := ⟨_, rfl⟩
   rw [show 2 ^ n = P n by rw [hP]]
   have HP0 : Hid (P 0 = 1) := by show P 0 = 1; rw [hP]
   have HPs : Hid (∀ j, P (j + 1) = 2 * P j) := fun j => by rw [hP]; show 2 ^ (j + 1) = 2 * 2 ^ j; rw [Nat.pow_succ, Nat.mul_comm]
   have HPl : Hid (∀ j, j < 64 → P j < 18446744073709551616) := fun j hj => by rw [hP]; have : 2 ^ j ≤ 2 ^ 63 := Nat.pow_le_pow_right (by omega) (by omega); show 2 ^ j < _; omega
   clear h0 h1 hn hP
   go_enter Tryz.func173, Tryz.ntmps173
   go_wp2_with fail
   go_loopw [3, 4] (fun o i wr => ∃ j : Nat, j ≤ n ∧ i = .int .i64 (j : Int) ∧ o = .int .u64 (P j : Int) ∧ wr = w) (fun _ i _ => n - (intOf i).toNat)
   case atStart => exact ⟨0, Nat.zero_le _, rfl, by rw [HP0.out]; rfl, rfl⟩
   case round =>
    obtain ⟨j, hj, rfl, rfl, rfl⟩ := hrel
    by_cases hlt : j < n
    ·
     have d0 : decide ((j : Int) < (n : Int)) = true := decide_eq_true (by omega)
     have d0' : decide (j < n) = true := decide_eq_true hlt
     have u1 : (j : Int) + 1 < 10000 := by have := HN.out; omega
     have hs := HPs.out j
     have hl := HPl.out (j + 1) (by have := HN.out; omega)
     obtain ⟨x, hx⟩ : ∃ x, x = P j := ⟨_, rfl⟩
     rw [← hx] at hs
     rw [← hx]
     have u2 : 2 * (x : Int) < 18446744073709551616 := by omega
     have u3 : 0 ≤ 2 * (x : Int) := by omega
     have HS : Hid ((P (j + 1) : Int) = 2 * (x : Int)) := by show _ = _; omega
     have HLT := Lib.hid hlt
     clear hlt hs hl hx
     go_wp2_with fail
     go_roundw
     case rel => exact ⟨j + 1, HLT.out, by go_num, by rw [HS.out], by first | rfl | trivial⟩
     case measure => simp [intOf]; have := HLT.out; omega
    ·
     obtain rfl : j = n := by omega
     clear hlt
     go_wp2_with fail
     go_ret
     exact ⟨rfl, Below.refl _ _⟩
theorem yb8 (mask : UInt64) (v : Int) (w : World) :
  Calls Tryz.prog 144 #[.int .u64 (mask.toNat : Int), .int .i64 v] w fun e w' => e = .returned (.bool (hasZ mask v)) ∧ Below w.heap.size w w' := by
 have HB := Lib.hid (fun W => yb7 v W)
 by_cases h : 0 ≤ v ∧ v ≤ 63
 ·
  obtain ⟨n, rfl⟩ : ∃ n : Nat, v = n := ⟨v.toNat, by omega⟩
  have hn : n < 64 := by omega
  rw [zip hn] at HB
  rw [zyq hn, yfm]
  have hp : 0 < 2 ^ n := Nat.two_pow_pos n
  obtain ⟨m, hm⟩ : ∃ m, m = mask.toNat := ⟨_, rfl⟩
  have hml : m < 18446744073709551616 := by rw [hm]; exact mask.toNat_lt
  rw [← hm]
  obtain ⟨b, hb⟩ : ∃ b, b = 2 ^ n := ⟨_, rfl⟩
  rw [← hb] at hp HB
  rw [← hb]
  have t0 : decide ((0 : Int) < (b : Int)) = true := decide_eq_true (by omega)
  have t0' : decide (0 < b) = true := decide_eq_true hp
  obtain ⟨q, hq⟩ : ∃ q, q = m / b := ⟨_, rfl⟩
  have hql : q < 18446744073709551616 := by rw [hq]; exact Nat.lt_of_le_of_lt (Nat.div_le_self _ _) hml
  rw [← hq]
  have eq : (m : Int) / (b : Int) = (q : Int) := by rw [hq]; exact (Int.natCast_ediv m b).symm
  have b0 : ¬ (b : Int) = 0 := by omega
  have b0' : ¬ b = 0 := by omega
  have b1 : ((b : Int) == 0) = false := by rw [beq_eq_false_iff_ne]; omega
  have b1' : (b == 0) = false := by rw [beq_eq_false_iff_ne]; omega
  have eq' : Int.tdiv (m : Int) (b : Int) = (q : Int) := by rw [Int.tdiv_eq_ediv_of_nonneg (by omega)]; exact eq
  have HQ2 : Hid (((q : Int) % 2 == 1) = decide (q % 2 = 1)) := by show _ = _; rw [Bool.eq_iff_iff, beq_iff_eq, decide_eq_true_iff]; omega
  clear h hn hm hb hp hq eq
  go_enter Tryz.func144, Tryz.ntmps144
  go_wp2_with fail
  refine (HB.out _).mono ?_
  rintro e w1 ⟨rfl, g⟩
  go_wp2_with fail
  go_ret
  exact ⟨by show Ending.returned (.bool ((q : Int) % 2 == 1)) = _; rw [HQ2.out], g⟩
 ·
  rw [show bitN v = 0 from if_neg h] at HB
  rw [show hasZ mask v = false by unfold hasZ; rw [decide_eq_false h]; rfl]
  clear h
  go_enter Tryz.func144, Tryz.ntmps144
  go_wp2_with fail
  refine (HB.out _).mono ?_
  rintro e w1 ⟨rfl, g⟩
  go_wp2_with fail
  go_ret
  exact ⟨rfl, g⟩
theorem zuj (mask : UInt64) {v : Nat} (hv : v < 64) (w : World) :
  Calls Tryz.prog 144 #[.int .u64 (mask.toNat : Int), .int .i64 (v : Int)] w fun e w' => e = .returned (.bool (hasB mask v)) ∧ Below w.heap.size w w' := by
 have := yb8 mask (v : Int) w
 rwa [zyq hv] at this
open Go.RowKit
section
variable {w W W' : World} {T : Nat} {s : SlV} {v : Vt}
structure Vw (w W : World) (T : Nat) (s : SlV) (v : Vt) : Prop where
 box : W.heap[T]? = some (.cells (vo ⟨s, v.out⟩) 29 (0, 0))
 s : SlE Elt W (sv s) v.l
 g : Below w.heap.size w W
theorem Vw.keep (h : Vw w W T s v) (g : Below W.heap.size W W') : Vw w W' T s v := ⟨zac g h.box, zad g h.s, zab h.g g⟩
theorem Vw.z1 (h : Vw w W T s v) : ldA W (.pointer (some ⟨T, 0, none⟩)) 2 = some (vo ⟨s, v.out⟩) := (zbo h.box).2.2.1
theorem Vw.z0 (h : Vw w W T s v) : W.cell? ⟨T, 0, none⟩ = some (sv s) := (zbo h.box).1
theorem Vw.zo (h : Vw w W T s v) : W.cell? ⟨T, 1, none⟩ = some (.int .u64 (v.out.toNat : Int)) := (zbo h.box).2.1
theorem yeb (h : SlE Elt w (sv s) v.l) : Vw w (w.alloc (.cells (vo ⟨s, v.out⟩) 29)) w.heap.size s v := ⟨heap_alloc_last w _, zad below1 h, below1⟩
end
open Go.RowKit
section
variable {w W W' : World} {T : Nat} {s : SlV} {v : Vt}
end
theorem z2e (p : Option Addr) (n cp : Nat) (v : Vt) (w : World) (h : SlE Elt w (.slice p n cp) v.l) (hl : v.l.length = n) (hn : n ≤ 1000) :
  Calls Tryz.prog 106 #[.agg (vo ⟨⟨p, n, cp⟩, v.out⟩)] w fun e w' => e = .returned (.bool (mayV v)) ∧ Below w.heap.size w w' := by
 obtain ⟨W0, hW0⟩ : ∃ W0, W0 = w.alloc (.cells (vo ⟨⟨p, n, cp⟩, v.out⟩) 29) := ⟨_, rfl⟩
 have A : Hid (Vw w W0 w.heap.size ⟨p, n, cp⟩ v) := by rw [hW0]; exact yeb h
 have HW := Lib.hid hW0
 have HL := Lib.hid hl
 have HN := Lib.hid hn
 have HH := Lib.hid (fun (j : Nat) (hj : j < 64) W => zuj v.out hj W)
 obtain ⟨M, hM⟩ : ∃ M, M = (v.out.toNat : Int) := ⟨_, rfl⟩
 have HMo := Lib.hid hM
 rw [← hM] at HH
 obtain ⟨r, hr⟩ : ∃ r, r = mayV v := ⟨_, rfl⟩
 rw [← hr]
 have HR := Lib.hid hr
 clear hW0 h hl hn hM hr
 go_enter Tryz.func106, Tryz.ntmps106
 go_upto_region 1 with fail
 rw [← HW.out]
 go_wp2_with fail
 go_loopw [3, 4] (fun i _ wr => ∃ j : Nat, j ≤ 64 ∧ i = .int .i64 (j : Int) ∧ (∀ q, q < j → okAt v q = true) ∧ Vw w wr w.heap.size ⟨p, n, cp⟩ v) (fun i _ _ => 64 - (intOf i).toNat)
 case atStart => exact ⟨0, Nat.zero_le _, rfl, fun q hq => absurd hq (Nat.not_lt_zero _), A.out⟩
 case round =>
  obtain ⟨j, hj, rfl, hx, hA⟩ := hrel
  have HX := Lib.hid hx
  replace A := Lib.hid hA
  clear hx hA
  have z0 := A.out.z0
  rw [za0] at z0
  by_cases hlt : j < 64
  ·
   have zo := A.out.zo
   rw [← HMo.out] at zo
   have d0 : decide ((j : Int) < 64) = true := decide_eq_true (by omega)
   have d0' : decide (j < 64) = true := decide_eq_true hlt
   have u1 : (j : Int) + 1 < 10000 := by omega
   have HC := Lib.hid (HH.out j hlt wr)
   obtain ⟨b, hb⟩ : ∃ b, b = hasB v.out j := ⟨_, rfl⟩
   rw [← hb] at HC
   have HBb := Lib.hid hb
   have HLT := Lib.hid hlt
   have HOk : Hid (okAt v j = false → r = false) := fun e => by
    rw [HR.out, ← Bool.not_eq_true]
    intro e2
    rw [(zcf.1 e2).2.2 j HLT.out] at e
    cases e
   clear hlt hb
   go_wp2_with fail
   refine HC.out.mono ?_
   rintro e w1 ⟨rfl, g⟩
   replace A := Lib.hid (A.out.keep g)
   clear g z0 zo
   have z0 := A.out.z0
   rw [za0] at z0
   by_cases hjn : j < n
   ·
    have i0 : (0 : Int) ≤ (j : Int) := by omega
    have i1 : (j : Int) < (n : Int) := by omega
    have d1 : decide ((n : Int) ≤ (j : Int)) = false := decide_eq_false (by omega)
    have d1' : decide (n ≤ j) = false := decide_eq_false (by omega)
    have d2 : decide ((j : Int) < (n : Int)) = true := decide_eq_true (by omega)
    have d2' : decide (j < n) = true := decide_eq_true hjn
    obtain ⟨b1, o1, rfl, _, x1⟩ := zf5 A.out.s (by rw [HL.out]; omega)
    have y1 := zrc x1 (i := j) (by rw [HL.out]; exact hjn)
    have y2 := znf x1 (i := j) (by rw [HL.out]; exact hjn)
    have hk : okAt v j = (if b = true ∨ (lat v.l j).has = false then decide (lat v.l j = zlt) else true) := by
     have hjl : j < v.l.length := by rw [HL.out]; exact hjn
     unfold okAt
     rw [if_neg (fun e => e.2 hjl), ← HBb.out]
     by_cases e : b = true ∨ (lat v.l j).has = false
     ·
      rw [if_pos ⟨hjl, e⟩, if_pos e]
     ·
      rw [if_neg (fun e2 => e e2.2), if_neg e]
    generalize lat v.l j = x at *
    obtain ⟨hs, hhs⟩ : ∃ hs, hs = x.has := ⟨_, rfl⟩
    rw [← hhs] at hk y1
    have HK := Lib.hid hk
    clear x1 hk hhs hjn
    by_cases hz : x = zlt
    ·
     have HT : Hid (okAt v j = true) := by show _ = _; rw [HK.out, decide_eq_true hz]; split <;> rfl
     have t1 : decide (x = zlt) = true := decide_eq_true hz
     have T1 : Hid (x = zlt) := hz
     clear hz
     cases b <;> cases hs <;> (
      go_wp2_with fail
      go_roundw
      case rel => exact ⟨j + 1, HLT.out, by go_num, (fun q hq => by
       rcases Nat.lt_succ_iff_lt_or_eq.1 hq with h | rfl
       ·
        exact HX.out q h
       ·
        exact HT.out), A.out⟩
      case measure => simp [intOf]; have := HLT.out; omega)
    ·
     have t1 : decide (x = zlt) = false := decide_eq_false hz
     by_cases hc : b = true ∨ hs = false
     ·
      have hF : Hid (r = false) := HOk.out (by rw [HK.out, if_pos hc, t1])
      have hc' : (b = true) ∨ (b = false ∧ hs = false) := by cases b; (· exact .inr ⟨rfl, hc.resolve_left (by simp)⟩); (· exact .inl rfl)
      clear hz hc
      rcases hc' with rfl | ⟨rfl, rfl⟩
      ·
       go_wp2_with fail
       go_ret
       exact ⟨by rw [hF.out]; first | done | rfl, A.out.g⟩
      ·
       go_wp2_with fail
       go_ret
       exact ⟨by rw [hF.out]; first | done | rfl, A.out.g⟩
     ·
      have HT : Hid (okAt v j = true) := by show _ = _; rw [HK.out, if_neg hc]
      have hb0 : b = false := by cases b; (· rfl); (· exact absurd (.inl rfl) hc)
      have hs1 : hs = true := by cases hs; (· exact absurd (.inr rfl) hc); (· rfl)
      clear hz hc
      subst hb0 hs1
      go_wp2_with fail
      go_roundw
      case rel => exact ⟨j + 1, HLT.out, by go_num, (fun q hq => by
       rcases Nat.lt_succ_iff_lt_or_eq.1 hq with h | rfl
       ·
        exact HX.out q h
       ·
        exact HT.out), A.out⟩
      case measure => simp [intOf]; have := HLT.out; omega
   ·
    have d1 : decide ((n : Int) ≤ (j : Int)) = true := decide_eq_true (by omega)
    have d1' : decide (n ≤ j) = true := decide_eq_true (by omega)
    have d2 : decide ((j : Int) < (n : Int)) = false := decide_eq_false (by omega)
    have d2' : decide (j < n) = false := decide_eq_false hjn
    have hjl : ¬ j < v.l.length := by rw [HL.out]; exact hjn
    have hk : okAt v j = !b := by
     unfold okAt
     rw [← HBb.out]
     cases b
     ·
      rw [if_neg (fun e => by cases e.1), if_neg (fun e => hjl e.1)]; rfl
     ·
      rw [if_pos ⟨rfl, hjl⟩]; rfl
    have HK := Lib.hid hk
    clear hk hjl hjn
    cases b
    ·
     have HT : Hid (okAt v j = true) := by show _ = _; rw [HK.out]; rfl
     go_wp2_with fail
     go_roundw
     case rel => exact ⟨j + 1, HLT.out, by go_num, (fun q hq => by
      rcases Nat.lt_succ_iff_lt_or_eq.1 hq with h | rfl
      ·
       exact HX.out q h
      ·
       exact HT.out), A.out⟩
     case measure => simp [intOf]; have := HLT.out; omega
    ·
     have hF : Hid (r = false) := HOk.out (by rw [HK.out]; rfl)
     go_wp2_with fail
     go_ret
     exact ⟨by rw [hF.out]; first | done | rfl, A.out.g⟩
  ·
   obtain rfl : j = 64 := by omega
   clear hlt
   by_cases h1 : 1 ≤ n
   ·
    have t1 : decide ((1 : Int) ≤ (n : Int)) = true := decide_eq_true (by omega)
    have t1' : decide (1 ≤ n) = true := decide_eq_true h1
    by_cases h8 : n ≤ 8
    ·
     have t2 : decide ((n : Int) ≤ 8) = true := decide_eq_true (by omega)
     have t2' : decide (n ≤ 8) = true := decide_eq_true h8
     have hF : Hid (r = true) := by show r = true; rw [HR.out]; exact zcf.2 ⟨by rw [HL.out]; exact h1, by rw [HL.out]; exact h8, fun i hi => HX.out i hi⟩
     clear h1 h8
     go_wp2_with fail
     go_ret
     exact ⟨by rw [hF.out]; first | done | rfl, A.out.g⟩
    ·
     have t2 : decide ((n : Int) ≤ 8) = false := decide_eq_false (by omega)
     have t2' : decide (n ≤ 8) = false := decide_eq_false h8
     have hF : Hid (r = false) := by show r = false; rw [HR.out, ← Bool.not_eq_true]; intro e; have := (zcf.1 e).2.1; rw [HL.out] at this; omega
     clear h1 h8
     go_wp2_with fail
     go_ret
     exact ⟨by rw [hF.out]; first | done | rfl, A.out.g⟩
   ·
    have t1 : decide ((1 : Int) ≤ (n : Int)) = false := decide_eq_false (by omega)
    have t1' : decide (1 ≤ n) = false := decide_eq_false h1
    have hF : Hid (r = false) := by show r = false; rw [HR.out, ← Bool.not_eq_true]; intro e; have := (zcf.1 e).1; rw [HL.out] at this; omega
    clear h1
    go_wp2_with fail
    go_ret
    exact ⟨by rw [hF.out]; first | done | rfl, A.out.g⟩
theorem zzj (s : SlV) (v : Vt) (w : World) (h : SlE Elt w (sv s) v.l) (hn : v.l.length ≤ 1000) :
  Calls Tryz.prog 106 #[.agg (vo ⟨s, v.out⟩)] w fun e w' => e = .returned (.bool (mayV v)) ∧ Below w.heap.size w w' := by
 have hl := zg8 h
 obtain ⟨p, n, cp⟩ := s
 dsimp only at hl
 exact z2e p n cp v w h hl (by omega)
end Go.Proofs.YtkalofboioffiaaGreat
