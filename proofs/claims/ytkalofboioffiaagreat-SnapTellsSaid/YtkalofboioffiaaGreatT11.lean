import Derived.Test.YtkalofboioffiaaGreatT10
namespace Go.Proofs.YtkalofboioffiaaGreat
open Go.RowKit
set_option maxRecDepth 200000
set_option maxHeartbeats 64000000
theorem zun (x y : Sn) (s t : Sg) (w : World) (h : LaidS w x s) (h' : LaidS w y t) (hn : s.t.length ≤ 1000) :
  Calls Tryz.prog 11 #[.agg (sn x), .agg (sn y)] w fun e w' => e = .returned (.bool (decide (s = t))) ∧ Below w.heap.size w w' := by
 obtain ⟨W0, hW0⟩ : ∃ W0, W0 = (w.alloc (.cells (sn x) 40)).alloc (.cells (sn y) 40) := ⟨_, rfl⟩
 obtain ⟨hB, q0, q1, _⟩ := zc2 w _ _ _ _ W0 hW0
 have A : Hid (Sw w W0 w.heap.size x s) := ⟨q0, h.keep hB, hB⟩
 have B : Hid (Sw w W0 (w.heap.size + 1) y t) := ⟨q1, h'.keep hB, hB⟩
 have HW := Lib.hid hW0
 have H1 := Lib.hid (fun W a b => ygp x.t.n y.t.n s.t t.t W a b hn)
 obtain ⟨a1, e1⟩ : ∃ a, a = decide (s.t = t.t) := ⟨_, rfl⟩
 obtain ⟨a2, e2⟩ : ∃ a, a = (s.ver == t.ver) := ⟨_, rfl⟩
 obtain ⟨a3, e3⟩ : ∃ a, a = eqB s.head t.head := ⟨_, rfl⟩
 obtain ⟨a4, e4⟩ : ∃ a, a = decide (s.just = t.just) := ⟨_, rfl⟩
 obtain ⟨a5, e5⟩ : ∃ a, a = decide (s.fin = t.fin) := ⟨_, rfl⟩
 have HF : Hid (decide (s = t) = (a1 && (a2 && (a3 && (a4 && a5))))) := by
  show _ = _
  rw [e1, e2, e3, e4, e5, Bool.eq_iff_iff]
  simp only [Bool.and_eq_true, decide_eq_true_iff, beq_iff_eq, zq2]
  constructor
  ·
   rintro rfl; exact ⟨rfl, rfl, rfl, rfl, rfl⟩
  ·
   rintro ⟨h1, h2, h3, h4, h5⟩
   exact Sg.ext h2 h1 h3 h4 h5
 have t2 := e2.symm
 have t2' : decide (s.ver = t.ver) = a2 := by rw [e2, Bool.eq_iff_iff, decide_eq_true_iff, beq_iff_eq]
 have t3 := e3.symm
 have t4 := e4.symm
 have t5 := e5.symm
 rw [← e1] at H1
 obtain ⟨r, hr⟩ : ∃ r, r = decide (s = t) := ⟨_, rfl⟩
 rw [← hr] at HF ⊢
 clear hW0 hB q0 q1 h h' hn e1 e2 e3 e4 e5 hr
 go_enter Tryz.func11, Tryz.ntmps11
 go_upto_region 1 with fail
 rw [← HW.out]
 have za := A.out.zT
 have zc := B.out.zT
 go_wp2_with fail
 refine (H1.out _ A.out.l.t B.out.l.t).mono ?_
 rintro e w1 ⟨rfl, gg⟩
 replace A := Lib.hid (A.out.keep gg)
 replace B := Lib.hid (B.out.keep gg)
 clear za zc gg H1
 have x1 := A.out.zv
 have x2 := B.out.zv
 have x3 := A.out.zh
 have x4 := B.out.zh
 have x5 := A.out.zj
 have x6 := B.out.zj
 have x7 := A.out.zf
 have x8 := B.out.zf
 cases a1
 ·
  go_wp2_with fail
  go_ret
  exact ⟨by rw [HF.out]; first | done | rfl | simp, A.out.g⟩
 ·
  cases a2
  ·
   go_wp2_with fail
   go_ret
   exact ⟨by rw [HF.out]; first | done | rfl | simp, A.out.g⟩
  ·
   cases a3
   ·
    go_wp2_with fail
    go_ret
    exact ⟨by rw [HF.out]; first | done | rfl | simp, A.out.g⟩
   ·
    cases a4
    ·
     go_wp2_with fail
     go_ret
     exact ⟨by rw [HF.out]; first | done | rfl | simp, A.out.g⟩
    ·
     cases a5
     ·
      go_wp2_with fail
      go_ret
      exact ⟨by rw [HF.out]; first | done | rfl | simp, A.out.g⟩
     ·
      go_wp2_with fail
      go_ret
      exact ⟨by rw [HF.out]; first | done | rfl | simp, A.out.g⟩
theorem zld : ∀ args w, (callFunc 11 args).run Tryz.prog w = .ok (.enter 11 args) w := za7 Tryz.func11 (by kernel_rfl) (by kernel_rfl)
theorem ycf (p : Option Addr) (n cp : Nat) (l : List Nd) (w : World) (h : SlE Ene w (.slice p n cp) l) (hl : l.length = n) (hn : n ≤ 1000) :
  Calls Tryz.prog 74 #[.agg (tr ⟨⟨p, n, cp⟩⟩)] w fun e w' => e = .returned (.bool (decide (MayT l))) ∧ Below w.heap.size w w' := by
 have HL := Lib.hid hl
 have HN := Lib.hid hn
 obtain ⟨r, hr⟩ : ∃ r, r = decide (MayT l) := ⟨_, rfl⟩
 rw [← hr]
 have HR := Lib.hid hr
 obtain ⟨W0, hW0⟩ : ∃ W0, W0 = w.alloc (.cells (tr ⟨⟨p, n, cp⟩⟩) 24) := ⟨_, rfl⟩
 have HB : Hid (Below w.heap.size w W0) := by rw [hW0]; exact below1
 have M0 : Hid (W0.heap[w.heap.size]? = some (.cells (tr ⟨⟨p, n, cp⟩⟩) 24 (0, 0))) := by rw [hW0]; exact heap_alloc_last w _
 have HS := Lib.hid (zad HB.out h)
 have HW := Lib.hid hW0
 have HNo : Hid (∀ i, i < n → ¬ zhw l i → r = false) := by
  intro i hi hno
  rw [hr, decide_eq_false_iff_not]
  exact fun hm => hno (hm.2.2 i (by omega))
 clear hW0 h hl hn hr
 go_enter Tryz.func74, Tryz.ntmps74
 go_wp2_with fail
 rw [← HW.out]
 go_loopw [3] (fun i wr => ∃ j : Nat, j ≤ n ∧ i = .int .i64 (j : Int) ∧ (∀ k, k < j → zhw l k) ∧ Below W0.heap.size W0 wr) (fun i _ => n - (intOf i).toNat)
 case atStart => exact ⟨0, Nat.zero_le _, rfl, fun k hk => absurd hk (Nat.not_lt_zero _), Below.refl _ _⟩
 case round =>
  obtain ⟨j, hj, rfl, hx, hb⟩ := hrel
  have HX := Lib.hid hx
  have HBB := Lib.hid hb
  obtain ⟨z0, z1, zl⟩ := zai (zac hb M0.out)
  dsimp only at z0
  rw [za0] at z0
  clear hx hb
  obtain ⟨wo, rfl⟩ : ∃ wo : World, wo = wr := ⟨_, rfl⟩
  by_cases hlt : j < n
  ·
   have i0 : (0 : Int) ≤ (j : Int) := by omega
   have i1 : (j : Int) < (n : Int) := by omega
   have u1 : (j : Int) + 1 < 10000 := by have := HN.out; omega
   obtain ⟨b1, o1, c1, e1, _, q1, x1⟩ := zcz HS.out (by have := HL.out; omega)
   injection e1 with e2 e4 e3
   clear e4
   subst e2 e3
   have X1 := Lib.hid x1
   have Q1 := Lib.hid q1
   have q1' : b1 < wo.heap.size := Nat.lt_of_lt_of_le q1 HBB.out.size
   have y1 := keep HBB.out (zjd x1 (i := j) (by have := HL.out; omega))
   have HXn : Hid (∃ x, x = nd l j) := ⟨_, rfl⟩
   clear x1 q1
   obtain ⟨x, hx⟩ := HXn.out
   rw [← hx] at y1
   have HXx := Lib.hid hx
   clear HXn hx
   by_cases h1 : 1099511627776 < x.slot.toNat
   ·
    have t1 : decide ((1099511627776 : Int) < (x.slot.toNat : Int)) = true := by rw [decide_eq_true_iff]; omega
    have t1' : decide (1099511627776 < x.slot.toNat) = true := decide_eq_true h1
    have hR : Hid (r = false) := HNo.out j hlt (fun ho => by have := ho.1; unfold sl at this; rw [← HXx.out] at this; omega)
    clear h1
    go_wp2_with fail
    go_ret
    exact ⟨by rw [hR.out]; first | done | rfl, zab HB.out (zab HBB.out below1)⟩
   ·
    have t1 : decide ((1099511627776 : Int) < (x.slot.toNat : Int)) = false := by rw [decide_eq_false_iff_not]; omega
    have t1' : decide (1099511627776 < x.slot.toNat) = false := decide_eq_false h1
    have H1 := Lib.hid h1
    clear h1
    obtain ⟨W1, hW1⟩ : ∃ W1, W1 = wo.alloc (.cells (ne x) 63) := ⟨_, rfl⟩
    have HW1 := Lib.hid hW1
    have B1 : Hid (Below W0.heap.size W0 W1) := by rw [hW1]; exact zab HBB.out below1
    have N1 : Hid (W1.heap[wo.heap.size]? = some (.cells (ne x) 63 (0, 0))) := by rw [hW1]; exact heap_alloc_last wo _
    clear hW1
    by_cases h0 : j = 0
    ·
     subst h0
     by_cases hp : x.parent = -1
     ·
      have t2 : (x.parent == -1) = true := by simpa using hp
      have HP := Lib.hid hp
      have HOk : Hid ((∀ k, k < 0 → (nd l k).root ≠ x.root) → zhw l 0) := fun hk => by
       unfold zhw sl
       rw [← HXx.out]
       exact ⟨by have := H1.out; omega, fun _ => HP.out, fun h => absurd h (Nat.lt_irrefl _), hk⟩
      clear hp
      rw [Nat.zero_mul, Nat.add_zero] at y1
      go_wp2_with fail
      go_quiet (fail)
      go_wp2_with fail
      rw [← HW1.out]
      go_loopw [5] (fun i wr => ∃ k : Nat, k ≤ 0 ∧ i = .int .i64 (k : Int) ∧ (∀ m, m < k → (nd l m).root ≠ x.root) ∧ Below W1.heap.size W1 wr) (fun i _ => 0 - (intOf i).toNat)
      case atStart => exact ⟨0, Nat.zero_le _, rfl, fun m hm => absurd hm (Nat.not_lt_zero _), zah (Below.refl _ _) _⟩
      case round =>
       obtain ⟨k, hk, rfl, hx2, hb2⟩ := hrel
       have HX2 := Lib.hid hx2
       have HB2 := Lib.hid hb2
       obtain ⟨z0, z1, zl⟩ := zai (zac (zab B1.out hb2) M0.out)
       dsimp only at z0
       rw [za0] at z0
       obtain ⟨n0, _, _, _, _, nl⟩ := zrk (zac hb2 N1.out)
       clear hx2 hb2
       by_cases hlt2 : k < 0
       ·
        exact absurd hlt2 (Nat.not_lt_zero _)
       ·
        obtain rfl : 0 = k := by omega
        go_wp2_with fail
        go_roundw
        case rel => exact ⟨0 + 1, by omega, by go_num, fun m hm => by
         rcases Nat.lt_succ_iff_lt_or_eq.1 hm with h | rfl
         ·
          exact HX.out m h
         ·
          exact HOk.out HX2.out, zab B1.out HB2.out⟩
        case measure => simp [intOf]; omega
     ·
      have t2 : (x.parent != -1) = true := by simpa using hp
      have hR : Hid (r = false) := HNo.out 0 hlt (fun ho => by have := ho.2.1 rfl; rw [← HXx.out] at this; exact hp this)
      clear hp
      rw [Nat.zero_mul, Nat.add_zero] at y1
      go_wp2_with fail
      go_ret
      exact ⟨by rw [hR.out]; first | done | rfl, zab HB.out (zab HBB.out below1)⟩
    ·
     have HJ0 : Hid (0 < j) := Nat.pos_of_ne_zero h0
     have c0 : ((j : Int) == 0) = false := by simpa using h0
     have c0' : decide ((j : Int) = 0) = false := by simpa using h0
     have c0'' : decide (j = 0) = false := by simpa using h0
     have c1 : decide ((0 : Int) < (j : Int)) = true := by rw [decide_eq_true_iff]; omega
     have c1' : decide (0 < j) = true := by rw [decide_eq_true_iff]; omega
     clear h0
     by_cases hp : x.parent < 0
     ·
      have t2 : decide (x.parent < 0) = true := decide_eq_true hp
      have hR : Hid (r = false) := HNo.out j hlt (fun ho => by have := (ho.2.2.1 HJ0.out).1; rw [← HXx.out] at this; omega)
      clear hp
      go_wp2_with fail
      go_ret
      exact ⟨by rw [hR.out]; first | done | rfl, zab HB.out (zab HBB.out below1)⟩
     ·
      obtain ⟨q, hq⟩ : ∃ q : Nat, x.parent = (q : Int) := ⟨x.parent.toNat, by omega⟩
      have t2 : decide ((q : Int) < 0) = false := by rw [decide_eq_false_iff_not]; omega
      clear hp
      have HQ := Lib.hid hq
      by_cases hqj : j ≤ q
      ·
       have t3 : decide ((j : Int) ≤ (q : Int)) = true := by rw [decide_eq_true_iff]; omega
       have t3' : decide (j ≤ q) = true := by rw [decide_eq_true_iff]; omega
       have hR : Hid (r = false) := HNo.out j hlt (fun ho => by have := (ho.2.2.1 HJ0.out).2.1; rw [← HXx.out, HQ.out] at this; omega)
       clear hqj
       go_wp2_with fail
       go_ret
       exact ⟨by rw [hR.out]; first | done | rfl, zab HB.out (zab HBB.out below1)⟩
      ·
       have t3 : decide ((j : Int) ≤ (q : Int)) = false := by rw [decide_eq_false_iff_not]; omega
       have t3' : decide (j ≤ q) = false := by rw [decide_eq_false_iff_not]; omega
       have HQJ : Hid (q < j) := Nat.lt_of_not_le hqj
       have q0 : (0 : Int) ≤ (q : Int) := by omega
       have qn : (q : Int) < (j : Int) := by omega
       have y4 := zhm (zbu B1.out X1.out) (i := q) (by have := HL.out; omega)
       obtain ⟨z3, z4, zl2⟩ := zai (zac B1.out M0.out)
       dsimp only at z3
       rw [za0] at z3
       obtain ⟨n0, n1, n2, n3, n4, nl⟩ := zrk N1.out
       rw [hq] at n1
       clear hqj
       by_cases hs : x.slot.toNat ≤ (nd l q).slot.toNat
       ·
        have t4 : decide ((x.slot.toNat : Int) ≤ ((nd l q).slot.toNat : Int)) = true := by rw [decide_eq_true_iff]; omega
        have t4' : decide (x.slot.toNat ≤ (nd l q).slot.toNat) = true := decide_eq_true hs
        have hR : Hid (r = false) := HNo.out j hlt (fun ho => by
         have := (ho.2.2.1 HJ0.out).2.2
         unfold sl up at this
         rw [← HXx.out, HQ.out, Int.toNat_natCast] at this
         omega)
        clear hs
        go_wp2_with fail
        rw [← HW1.out]
        go_quiet (fail)
        go_wp2_with fail
        go_ret
        exact ⟨by rw [hR.out]; first | done | rfl, zab HB.out (zah B1.out _)⟩
       ·
        have t4 : decide ((x.slot.toNat : Int) ≤ ((nd l q).slot.toNat : Int)) = false := by rw [decide_eq_false_iff_not]; omega
        have t4' : decide (x.slot.toNat ≤ (nd l q).slot.toNat) = false := decide_eq_false hs
        have HOk : Hid ((∀ k, k < j → (nd l k).root ≠ x.root) → zhw l j) := fun hk => by
         unfold zhw sl up
         rw [← HXx.out, HQ.out, Int.toNat_natCast]
         exact ⟨by have := H1.out; omega, fun h => by have := HJ0.out; omega, fun _ => ⟨by omega, by have := HQJ.out; omega, by omega⟩, hk⟩
        clear hs
        go_wp2_with fail
        rw [← HW1.out]
        go_quiet (fail)
        go_wp2_with fail
        go_loopw [5] (fun i wr => ∃ k : Nat, k ≤ j ∧ i = .int .i64 (k : Int) ∧ (∀ m, m < k → (nd l m).root ≠ x.root) ∧ Below W1.heap.size W1 wr) (fun i _ => j - (intOf i).toNat)
        case atStart => exact ⟨0, Nat.zero_le _, rfl, fun m hm => absurd hm (Nat.not_lt_zero _), zah (Below.refl _ _) _⟩
        case round =>
         obtain ⟨k, hk, rfl, hx2, hb2⟩ := hrel
         have HX2 := Lib.hid hx2
         have HB2 := Lib.hid hb2
         obtain ⟨z0, z1, zl⟩ := zai (zac (zab B1.out hb2) M0.out)
         dsimp only at z0
         rw [za0] at z0
         obtain ⟨n0, _, _, _, _, nl⟩ := zrk (zac hb2 N1.out)
         clear hx2 hb2
         by_cases hlt2 : k < j
         ·
          have j0 : (0 : Int) ≤ (k : Int) := by omega
          have j1 : (k : Int) < (n : Int) := by omega
          have u2 : (k : Int) + 1 < 10000 := by have := HN.out; omega
          have y3 := keep (zab B1.out HB2.out) (zdf X1.out (i := k) (by have := HL.out; omega))
          by_cases he : (nd l k).root = x.root
          ·
           rw [he] at y3
           have t3 := zym x.root
           have hR : Hid (r = false) := HNo.out j hlt (fun ho => by have := ho.2.2.2 k hlt2; rw [← HXx.out] at this; exact this he)
           clear he
           go_wp2_with fail
           go_quiet (fail)
           go_wp2_with fail
           go_ret
           exact ⟨by rw [hR.out]; first | done | rfl, zab HB.out (zah (zab B1.out HB2.out) _)⟩
          ·
           have t3 : eqB (nd l k).root x.root = false := decide_eq_false he
           have HE := Lib.hid he
           clear he
           go_wp2_with fail
           go_quiet (fail)
           go_wp2_with fail
           go_roundw
           case rel => exact ⟨k + 1, by omega, by go_num, fun m hm => by
            rcases Nat.lt_succ_iff_lt_or_eq.1 hm with h | rfl
            ·
             exact HX2.out m h
            ·
             exact HE.out, zah HB2.out _⟩
           case measure => simp [intOf]; omega
         ·
          obtain rfl : j = k := by omega
          go_wp2_with fail
          go_roundw
          case rel => exact ⟨j + 1, by omega, by go_num, fun m hm => by
           rcases Nat.lt_succ_iff_lt_or_eq.1 hm with h | rfl
           ·
            exact HX.out m h
           ·
            exact HOk.out HX2.out, zab B1.out HB2.out⟩
          case measure => simp [intOf]; omega
  ·
   obtain rfl : j = n := by omega
   have hR : Hid (r = (decide (1 ≤ j) && decide (j ≤ 12))) := by
    show r = _
    rw [HR.out, Bool.eq_iff_iff, Bool.and_eq_true, decide_eq_true_iff, decide_eq_true_iff, decide_eq_true_iff]
    unfold MayT
    rw [HL.out]
    exact ⟨fun h => ⟨h.1, h.2.1⟩, fun h => ⟨h.1, h.2, HX.out⟩⟩
   have HG := Lib.hid (zab HB.out HBB.out)
   by_cases g1 : 1 ≤ j
   ·
    by_cases g2 : j ≤ 12
    ·
     have s1 : decide (1 ≤ j) = true := decide_eq_true g1
     have s1' : decide ((1 : Int) ≤ (j : Int)) = true := by rw [decide_eq_true_iff]; omega
     have s2 : decide (j ≤ 12) = true := decide_eq_true g2
     have s2' : decide ((j : Int) ≤ 12) = true := by rw [decide_eq_true_iff]; omega
     have hR' := Lib.hid (show r = true by rw [hR.out, s1, s2]; rfl)
     clear g1 g2
     go_wp2_with fail
     go_ret
     exact ⟨by rw [hR'.out]; first | done | rfl, HG.out⟩
    ·
     have s1 : decide (1 ≤ j) = true := decide_eq_true g1
     have s1' : decide ((1 : Int) ≤ (j : Int)) = true := by rw [decide_eq_true_iff]; omega
     have s2 : decide (j ≤ 12) = false := decide_eq_false g2
     have s2' : decide ((j : Int) ≤ 12) = false := by rw [decide_eq_false_iff_not]; omega
     have hR' := Lib.hid (show r = false by rw [hR.out, s1, s2]; rfl)
     clear g1 g2
     go_wp2_with fail
     go_ret
     exact ⟨by rw [hR'.out]; first | done | rfl, HG.out⟩
   ·
    have s1 : decide (1 ≤ j) = false := decide_eq_false g1
    have hR' := Lib.hid (show r = false by rw [hR.out, s1]; rfl)
    obtain rfl : j = 0 := by omega
    clear g1
    go_wp2_with fail
    go_ret
    exact ⟨by rw [hR'.out]; first | done | rfl, HG.out⟩
theorem zev (s : SlV) (l : List Nd) (w : World) (h : SlE Ene w (sv s) l) (hn : l.length ≤ 1000) :
  Calls Tryz.prog 74 #[.agg (tr ⟨s⟩)] w fun e w' => e = .returned (.bool (decide (MayT l))) ∧ Below w.heap.size w w' := by
 have := zbk h
 obtain ⟨p, n, cp⟩ := s
 exact ycf p n cp l w h this (by dsimp only at this; omega)
theorem zg6 (s : SlV) (l : List Nd) (r : Rt) (w : World) (h : SlE Ene w (sv s) l) (hn : l.length ≤ 1000) :
  Calls Tryz.prog 34 #[.agg (tr ⟨s⟩), .agg (rc r)] w fun e w' => e = .returned (.int .i64 (zaz l r)) ∧ Below w.heap.size w w' := by
 have HI := Lib.hid (fun W (g : Below w.heap.size w W) => zev s l W (zad g h) hn)
 have HL := Lib.hid (zbk h)
 have HN := Lib.hid hn
 obtain ⟨p, n, cp⟩ := s
 dsimp only at HL
 obtain ⟨x, hx⟩ : ∃ x, x = zaz l r := ⟨_, rfl⟩
 rw [← hx]
 have HX := Lib.hid hx
 obtain ⟨a, ha⟩ : ∃ a, a = decide (MayT l) := ⟨_, rfl⟩
 rw [← ha] at HI
 obtain ⟨W0, hW0⟩ : ∃ W0, W0 = (w.alloc (.cells (tr ⟨⟨p, n, cp⟩⟩) 24)).alloc (.cells (rc r) 34) := ⟨_, rfl⟩
 have HB : Hid (Below w.heap.size w W0) := by rw [hW0]; exact zab below1 below1
 have M0 : Hid (W0.heap[w.heap.size]? = some (.cells (tr ⟨⟨p, n, cp⟩⟩) 24 (0, 0))) := by rw [hW0]; exact zac below1 (heap_alloc_last w _)
 have R0 : Hid (ldA W0 (.pointer (some ⟨w.heap.size + 1, 0, none⟩)) 32 = some (rc r)) := by
  rw [hW0]
  have := zar (heap_alloc_last (w.alloc (.cells (tr ⟨⟨p, n, cp⟩⟩) 24)) (.cells (rc r) 34 (0, 0))) (zay r)
  show ldA _ _ _ = _
  simpa using this
 have HS := Lib.hid h
 have HW := Lib.hid hW0
 have HA := Lib.hid ha
 clear hW0 h hn hx ha
 go_enter Tryz.func34, Tryz.ntmps34
 go_wp2_with fail
 rw [← HW.out]
 refine (HI.out W0 HB.out).mono ?_
 rintro e w1 ⟨rfl, g1⟩
 have GM := Lib.hid (zac g1 M0.out)
 have GR := Lib.hid (keep g1 R0.out)
 have G1 := Lib.hid (zab HB.out g1)
 clear g1 HB M0 R0 HI HW
 cases a
 ·
  have hX : Hid (x = -1) := by
   show x = -1
   rw [HX.out, zyp]
   intro hm
   have := HA.out
   rw [decide_eq_true hm] at this
   cases this
  obtain ⟨z0, z1, zl⟩ := zai GM.out
  dsimp only at z0
  rw [za0] at z0
  go_wp2_with fail
  refine wp_loop_rounds 1 ?_
  rw [rounds_succ]
  by_cases hz : 0 < n
  ·
   have t0 : decide ((0 : Int) < (n : Int)) = true := by rw [decide_eq_true_iff]; omega
   have t0' : decide (0 < n) = true := decide_eq_true hz
   clear hz
   go_wp2_with fail
   go_ret
   exact ⟨by rw [hX.out]; first | done | rfl, G1.out⟩
  ·
   obtain rfl : n = 0 := by omega
   clear hz
   go_wp2_with fail
   go_ret
   exact ⟨by rw [hX.out]; first | done | rfl, G1.out⟩
 ·
  have HM : Hid (MayT l) := Lib.hid (of_decide_eq_true HA.out.symm)
  obtain ⟨b1, o1, rfl, q1, x1⟩ := zcj HS.out HM.out.pos
  have X1 := Lib.hid (zbu G1.out x1)
  clear x1 HA
  go_wp2_with fail
  go_loopw [6] (fun v wr => ∃ m : Nat, m ≤ n ∧ v = .int .i64 (m : Int) ∧ (∀ k, k < m → (nd l k).root ≠ r) ∧ Below w1.heap.size w1 wr) (fun v _ => n - (intOf v).toNat)
  case atStart => exact ⟨0, Nat.zero_le _, rfl, fun k hk => absurd hk (Nat.not_lt_zero _), Below.refl _ _⟩
  case round =>
   obtain ⟨m, hmn, rfl, hab, hb⟩ := hrel
   have HAB := Lib.hid hab
   have HMN := Lib.hid hmn
   have HBB := Lib.hid hb
   obtain ⟨z0, z1, zl⟩ := zai (zac hb GM.out)
   dsimp only at z0
   rw [za0] at z0
   have zr := keep hb GR.out
   clear hab hmn hb
   by_cases hlt : m < n
   ·
    have u1 : (m : Int) < (n : Int) := by omega
    have u2 : (0 : Int) ≤ (m : Int) := by omega
    have u3 : (m : Int) + 1 < 10000 := by have := HL.out; have := HN.out; omega
    have y1 := zdf (zbu HBB.out X1.out) (i := m) (by have := HL.out; omega)
    by_cases he : (nd l m).root = r
    ·
     rw [he] at y1
     have t3 := zym r
     have hX : Hid (x = (m : Int)) := by
      show x = _
      rw [HX.out, ← he, z5c HM.out (by have := HL.out; omega)]
     clear he
     go_wp2_with fail
     go_quiet (fail)
     go_wp2_with fail
     go_ret
     exact ⟨by rw [hX.out]; first | done | rfl, zab G1.out (zah HBB.out _)⟩
    ·
     have t3 : eqB (nd l m).root r = false := decide_eq_false he
     have HE := Lib.hid he
     clear he
     go_wp2_with fail
     go_quiet (fail)
     go_wp2_with fail
     go_roundw
     case rel => exact ⟨m + 1, by omega, by go_num, fun k hk => by
      rcases Nat.lt_succ_iff_lt_or_eq.1 hk with h | rfl
      ·
       exact HAB.out k h
      ·
       exact HE.out, zah HBB.out _⟩
     case measure => simp [intOf]; omega
   ·
    obtain rfl : m = n := by have := HMN.out; omega
    have hX : Hid (x = -1) := by
     show x = -1
     rw [HX.out]
     rcases zcs HM.out r with ⟨i, hi, _, hr⟩ | ⟨e, _⟩
     ·
      exact absurd hr (HAB.out i (by have := HL.out; omega))
     ·
      exact e
    clear hlt
    go_wp2_with fail
    go_ret
    exact ⟨by rw [hX.out]; first | done | rfl, zab G1.out HBB.out⟩
theorem yce (s : SlV) (l : List Nd) (i : Int) (w : World) (h : SlE Ene w (sv s) l) (hn : l.length ≤ 1000) :
  Calls Tryz.prog 77 #[.agg (tr ⟨s⟩), .int .i64 i] w fun e w' => e = .returned (.bool (isT l i)) ∧ Below w.heap.size w w' := by
 have HN : Hid (l.length ≤ 1000) := Lib.hid hn
 have HM := Lib.hid (fun W (g : Below w.heap.size w W) => zev s l W (zad g h) hn)
 have hl := zbk h
 obtain ⟨p, n, cp⟩ := s
 dsimp only at hl
 obtain ⟨r, hr⟩ : ∃ r, r = decide (MayT l) := ⟨_, rfl⟩
 rw [← hr] at HM
 obtain ⟨x, hx⟩ : ∃ x, x = isT l i := ⟨_, rfl⟩
 rw [← hx]
 have HX : Hid (x = (r && (decide (0 ≤ i) && decide (i < (n : Int))))) := by rw [hx, hr]; unfold isT; rw [hl]; rfl
 obtain ⟨W0, hW0⟩ : ∃ W0, W0 = w.alloc (.cells (tr ⟨⟨p, n, cp⟩⟩) 24) := ⟨_, rfl⟩
 have HB : Hid (Below w.heap.size w W0) := by rw [hW0]; exact below1
 have M0 : Hid (W0.heap[w.heap.size]? = some (.cells (tr ⟨⟨p, n, cp⟩⟩) 24 (0, 0))) := by rw [hW0]; exact heap_alloc_last w _
 have HW := Lib.hid hW0
 clear hW0 h hl hn hr hx
 go_enter Tryz.func77, Tryz.ntmps77
 go_wp2_with fail
 rw [← HW.out]
 refine (HM.out W0 HB.out).mono ?_
 rintro e w1 ⟨rfl, g1⟩
 have G1 := Lib.hid (zab HB.out g1)
 obtain ⟨z0, z1, zl⟩ := zai (zac g1 M0.out)
 dsimp only at z0
 rw [za0] at z0
 cases r
 ·
  go_wp2_with fail
  go_ret
  exact ⟨by rw [HX.out]; rfl, G1.out⟩
 ·
  by_cases h0 : 0 ≤ i
  ·
   have t0 : decide (0 ≤ i) = true := decide_eq_true h0
   by_cases h1 : i < (n : Int)
   ·
    have t1 : decide (i < (n : Int)) = true := decide_eq_true h1
    have hX : Hid (x = true) := by show x = true; rw [HX.out, t0, t1]; rfl
    clear h0 h1
    go_wp2_with fail
    go_ret
    exact ⟨by rw [hX.out]; first | done | rfl, G1.out⟩
   ·
    have t1 : decide (i < (n : Int)) = false := decide_eq_false h1
    have hX : Hid (x = false) := by show x = false; rw [HX.out, t0, t1]; rfl
    clear h0 h1
    go_wp2_with fail
    go_ret
    exact ⟨by rw [hX.out]; first | done | rfl, G1.out⟩
  ·
   have t0 : decide (0 ≤ i) = false := decide_eq_false h0
   have hX : Hid (x = false) := by show x = false; rw [HX.out, t0]; rfl
   clear h0
   go_wp2_with fail
   go_ret
   exact ⟨by rw [hX.out]; first | done | rfl, G1.out⟩
theorem zgc (s : SlV) (l : List Nd) (i k : Int) (w : World) (h : SlE Ene w (sv s) l) (hn : l.length ≤ 1000) :
  Calls Tryz.prog 38 #[.agg (tr ⟨s⟩), .int .i64 i, .int .i64 k] w fun e w' => e = .returned (.bool (zbp l i k)) ∧ Below w.heap.size w w' := by
 have HI := Lib.hid (fun W (g : Below w.heap.size w W) => yce s l i W (zad g h) hn)
 have HK := Lib.hid (fun W (g : Below w.heap.size w W) => yce s l k W (zad g h) hn)
 have HL := Lib.hid (zbk h)
 obtain ⟨p, n, cp⟩ := s
 dsimp only at HL
 obtain ⟨x, hx⟩ : ∃ x, x = zbp l i k := ⟨_, rfl⟩
 rw [← hx]
 have HX := Lib.hid hx
 obtain ⟨a, ha⟩ : ∃ a, a = isT l i := ⟨_, rfl⟩
 obtain ⟨b, hb⟩ : ∃ b, b = isT l k := ⟨_, rfl⟩
 rw [← ha] at HI
 rw [← hb] at HK
 obtain ⟨W0, hW0⟩ : ∃ W0, W0 = w.alloc (.cells (tr ⟨⟨p, n, cp⟩⟩) 24) := ⟨_, rfl⟩
 have HB : Hid (Below w.heap.size w W0) := by rw [hW0]; exact below1
 have M0 : Hid (W0.heap[w.heap.size]? = some (.cells (tr ⟨⟨p, n, cp⟩⟩) 24 (0, 0))) := by rw [hW0]; exact heap_alloc_last w _
 have HS := Lib.hid h
 have HW := Lib.hid hW0
 have HXF : Hid (a = false → x = false) := fun e => by rw [HX.out]; unfold zbp; rw [← ha, e]; rfl
 have HXG : Hid (b = false → x = false) := fun e => by rw [HX.out]; unfold zbp; rw [← hb, e, Bool.and_false]; rfl
 have HA := Lib.hid ha
 have HBB := Lib.hid hb
 clear hW0 h hn hx ha hb
 go_enter Tryz.func38, Tryz.ntmps38
 go_wp2_with fail
 rw [← HW.out]
 refine (HI.out W0 HB.out).mono ?_
 rintro e w1 ⟨rfl, g1⟩
 have G1 := Lib.hid g1
 obtain ⟨z0, z1, zl⟩ := zai (zac g1 M0.out)
 dsimp only at z0
 rw [za0] at z0
 clear g1
 go_wp2_with fail
 refine (HK.out w1 (zab HB.out G1.out)).mono ?_
 rintro e w2 ⟨rfl, g2⟩
 have G2 := Lib.hid (zab (zab HB.out G1.out) g2)
 have G3 := Lib.hid (zab G1.out g2)
 clear z0 z1 zl g2
 obtain ⟨z0, z1, zl⟩ := zai (zac G3.out M0.out)
 dsimp only at z0
 rw [za0] at z0
 cases a
 ·
  have hX : Hid (x = false) := HXF.out rfl
  go_wp2_with fail
  go_ret
  exact ⟨by rw [hX.out]; first | done | rfl, G2.out⟩
 ·
  cases b
  ·
   have hX : Hid (x = false) := HXG.out rfl
   go_wp2_with fail
   go_ret
   exact ⟨by rw [hX.out]; first | done | rfl, G2.out⟩
  ·
   obtain ⟨hm, hi0, hi1⟩ := zb2.1 HA.out.symm
   obtain ⟨_, hk0, hk1⟩ := zb2.1 HBB.out.symm
   obtain ⟨i', rfl⟩ : ∃ i' : Nat, i = i' := ⟨i.toNat, by omega⟩
   obtain ⟨k', rfl⟩ : ∃ k' : Nat, k = k' := ⟨k.toNat, by omega⟩
   have HX' : Hid (x = zat l i' k') := by show x = _; rw [HX.out, zdn hm (by omega) (by omega)]
   have HM := Lib.hid hm
   have HI1 : Hid (i' < n) := by show i' < n; have := HL.out; omega
   have HK1 : Hid (k' < n) := by show k' < n; have := HL.out; omega
   clear hi0 hi1 hk0 hk1 HXF HXG HX HA HBB HI HK
   obtain ⟨b1, o1, rfl, q1, x1⟩ := zcj HS.out hm.pos
   have X1 := Lib.hid (zbu G2.out x1)
   clear hm x1
   have u0 : (i' : Int) < 10000 := by have := HI1.out; have := HM.out.le; have := HL.out; omega
   have u00 : (0 : Int) ≤ (i' : Int) := by omega
   go_wp2_with fail
   go_loop [2] (fun v => ∃ m : Nat, m < n ∧ v = .int .i64 (m : Int) ∧ zat l i' m = zat l i' k') (fun v => (intOf v).toNat)
   case atStart => exact ⟨k', HK1.out, rfl, rfl⟩
   case round =>
    obtain ⟨m, hmn, rfl, hab⟩ := hrel
    have HAB := Lib.hid hab
    have HMN := Lib.hid hmn
    clear hab hmn
    have u1 : (m : Int) < (n : Int) := by have := HMN.out; omega
    have u2 : (0 : Int) ≤ (m : Int) := by omega
    by_cases hlt : i' < m
    ·
     have t1 : decide ((i' : Int) < (m : Int)) = true := by rw [decide_eq_true_iff]; omega
     obtain ⟨hp, hu, _⟩ := HM.out.par (k := m) (by omega) (by have := HL.out; have := HMN.out; omega)
     have y1 := zga X1.out (i := m) (by have := HL.out; have := HMN.out; omega)
     rw [hp] at y1
     have HU := Lib.hid hu
     have HLT := Lib.hid hlt
     clear hp hu hlt
     go_wp2_with fail
     go_round
     case rel => exact ⟨up l m, by have := HU.out; have := HMN.out; omega, rfl, by
      rw [← HAB.out, zln HM.out i' (k := m) (by have := HLT.out; omega) (by have := HL.out; have := HMN.out; omega), if_pos HLT.out]⟩
     case measure => have := HU.out; simp [intOf]; omega
    ·
     have t1 : decide ((i' : Int) < (m : Int)) = false := by rw [decide_eq_false_iff_not]; omega
     have t1' : decide (i' < m) = false := decide_eq_false hlt
     have HR : Hid (x = ((m : Int) == (i' : Int))) := by
      show x = _
      rw [HX'.out, ← HAB.out, zz7 HM.out (by have := HL.out; have := HMN.out; omega) hlt, Bool.eq_iff_iff, decide_eq_true_iff, beq_iff_eq]
      omega
     clear hlt
     go_wp2_with fail
     go_ret
     exact ⟨by rw [HR.out]; first | done | rfl, G2.out⟩
theorem zco : ∀ args w, (callFunc 34 args).run Tryz.prog w = .ok (.enter 34 args) w := za7 Tryz.func34 (by kernel_rfl) (by kernel_rfl)
theorem zer : ∀ args w, (callFunc 38 args).run Tryz.prog w = .ok (.enter 38 args) w := za7 Tryz.func38 (by kernel_rfl) (by kernel_rfl)
theorem zzl (x : Sn) (s : Sg) (w : World) (h : LaidS w x s) (hn : s.t.length ≤ 1000) :
  Calls Tryz.prog 14 #[.agg (sn x)] w fun e w' => e = .returned (.bool (mayN s)) ∧ Below w.heap.size w w' := by
 obtain ⟨W0, hW0⟩ : ∃ W0, W0 = w.alloc (.cells (sn x) 40) := ⟨_, rfl⟩
 have A : Hid (Sw w W0 w.heap.size x s) := by rw [hW0]; exact z8c h
 have HW := Lib.hid hW0
 have HFd := Lib.hid (fun r W hh => zg6 x.t.n s.t r W hh hn)
 have HAb := Lib.hid (fun i k W hh => zgc x.t.n s.t i k W hh hn)
 obtain ⟨f, hf⟩ : ∃ f, f = zaz s.t s.fin.root := ⟨_, rfl⟩
 obtain ⟨i, hi⟩ : ∃ i, i = zaz s.t s.head := ⟨_, rfl⟩
 obtain ⟨k, hk⟩ : ∃ k, k = zaz s.t s.just.root := ⟨_, rfl⟩
 have H1 := Lib.hid (HFd.out s.fin.root)
 have H2 := Lib.hid (HFd.out s.head)
 have H3 := Lib.hid (HFd.out s.just.root)
 have H4 := Lib.hid (HAb.out f i)
 have H5 := Lib.hid (HAb.out f k)
 rw [← hf] at H1
 rw [← hi] at H2
 rw [← hk] at H3
 obtain ⟨a, ha⟩ : ∃ a, a = zbp s.t f i := ⟨_, rfl⟩
 obtain ⟨b, hb⟩ : ∃ b, b = zbp s.t f k := ⟨_, rfl⟩
 rw [← ha] at H4
 rw [← hb] at H5
 obtain ⟨r, hr⟩ : ∃ r, r = mayN s := ⟨_, rfl⟩
 have HF : Hid (r = (a && b)) := by show _ = _; rw [hr, ha, hb, hf, hi, hk]; rfl
 rw [← hr]
 clear hW0 h hn HFd HAb hf hi hk ha hb hr
 go_enter Tryz.func14, Tryz.ntmps14
 go_upto_region 1 with fail
 rw [← HW.out]
 have zT := A.out.zT
 have zr := A.out.zr
 go_wp2_with fail
 refine (H1.out _ A.out.l.t).mono ?_
 rintro e w1 ⟨rfl, gg⟩
 replace A := Lib.hid (A.out.keep gg)
 clear zT zr gg H1
 have zT := A.out.zT
 have zh := A.out.zh
 go_upto_region 2 with fail
 have L0 := fun p : Wd w1.drew => zbb zT (by decide) p
 have L1 := fun p : Wd w1.drew => zbb zh (by decide) p
 clear zT zh
 refine zaj [7, 8] (by kernel_rfl) (by kernel_rfl) (by kernel_rfl) ?_
 repeat (first | (refine zae rfl rfl _ zaf ?_; (first | go_big_quiet_step (fail) | quiet_step (fail)); refine wpQuiet_nil ?_) | refine zag rfl ?_)
 refine zan rfl rfl rfl zco #[.agg (tr ⟨x.t.n⟩), .agg (rc s.head)] rfl ?_
 refine (H2.out _ (zad (zah (Below.refl _ _) 1) A.out.l.t)).mono ?_
 rintro e u ⟨rfl, g⟩
 refine ⟨_, rfl, g, ?_⟩
 simp only [Act.put, List.setIfInBounds_toArray, List.set_cons_zero, List.set_cons_succ]
 have GB : Hid (Below w1.heap.size w1 u) := zab (zah (Below.refl _ _) 1) g
 clear g
 repeat (first | (refine zae rfl rfl _ zaf ?_; (first | go_big_quiet_step (fail) | quiet_step (fail)); refine wpQuiet_nil ?_) | refine zag rfl ?_)
 refine zan rfl rfl rfl zer #[.agg (tr ⟨x.t.n⟩), .int .i64 f, .int .i64 i] rfl ?_
 refine (H4.out _ (zad GB.out A.out.l.t)).mono ?_
 rintro e u ⟨rfl, g⟩
 refine ⟨_, rfl, g, ?_⟩
 simp only [Act.put, List.setIfInBounds_toArray, List.set_cons_zero, List.set_cons_succ]
 replace GB : Hid (Below w1.heap.size w1 u) := zab GB.out g
 clear g
 repeat (first | (refine zae rfl rfl _ zaf ?_; (first | go_big_quiet_step (fail) | quiet_step (fail)); refine wpQuiet_nil ?_) | refine zag rfl ?_)
 refine za3 ?_
 clear L0 L1
 replace A := Lib.hid (A.out.keep GB.out)
 clear GB
 obtain ⟨w2, rfl⟩ : ∃ W : World, W = u := ⟨_, rfl⟩
 have zT := A.out.zT
 have zJ := A.out.zJ
 go_upto_region 3 with fail
 have L0 := fun p : Wd w2.drew => zbb zT (by decide) p
 have L1 := fun p : Wd w2.drew => zbb zJ (by decide) p
 clear zT zJ
 refine zaj [8, 9] (by kernel_rfl) (by kernel_rfl) (by kernel_rfl) ?_
 repeat (first | (refine zae rfl rfl _ zaf ?_; (first | go_big_quiet_step (fail) | quiet_step (fail)); refine wpQuiet_nil ?_) | refine zag rfl ?_)
 refine zan rfl rfl rfl zco #[.agg (tr ⟨x.t.n⟩), .agg (rc s.just.root)] rfl ?_
 refine (H3.out _ (zad (zah (Below.refl _ _) 1) A.out.l.t)).mono ?_
 rintro e u ⟨rfl, g⟩
 refine ⟨_, rfl, g, ?_⟩
 simp only [Act.put, List.setIfInBounds_toArray, List.set_cons_zero, List.set_cons_succ]
 have GB : Hid (Below w2.heap.size w2 u) := zab (zah (Below.refl _ _) 1) g
 clear g
 repeat (first | (refine zae rfl rfl _ zaf ?_; (first | go_big_quiet_step (fail) | quiet_step (fail)); refine wpQuiet_nil ?_) | refine zag rfl ?_)
 refine zan rfl rfl rfl zer #[.agg (tr ⟨x.t.n⟩), .int .i64 f, .int .i64 k] rfl ?_
 refine (H5.out _ (zad GB.out A.out.l.t)).mono ?_
 rintro e u ⟨rfl, g⟩
 refine ⟨_, rfl, g, ?_⟩
 simp only [Act.put, List.setIfInBounds_toArray, List.set_cons_zero, List.set_cons_succ]
 replace GB : Hid (Below w2.heap.size w2 u) := zab GB.out g
 clear g
 repeat (first | (refine zae rfl rfl _ zaf ?_; (first | go_big_quiet_step (fail) | quiet_step (fail)); refine wpQuiet_nil ?_) | refine zag rfl ?_)
 refine za3 ?_
 clear L0 L1
 replace A := Lib.hid (A.out.keep GB.out)
 clear GB
 obtain ⟨w3, rfl⟩ : ∃ W : World, W = u := ⟨_, rfl⟩
 cases a
 ·
  go_wp2_with fail
  go_ret
  exact ⟨by rw [HF.out]; first | done | rfl | simp, A.out.g⟩
 ·
  cases b
  ·
   go_wp2_with fail
   go_ret
   exact ⟨by rw [HF.out]; first | done | rfl | simp, A.out.g⟩
  ·
   go_wp2_with fail
   go_ret
   exact ⟨by rw [HF.out]; first | done | rfl | simp, A.out.g⟩
end Go.Proofs.YtkalofboioffiaaGreat
