import Derived.Test.YtkalofboioffiaaGreatT13
namespace Go.Proofs.YtkalofboioffiaaGreat
open Go.RowKit
set_option maxRecDepth 200000
set_option maxHeartbeats 64000000
theorem zw8 (p q : Option Addr) (n cp m cq : Nat) (l : List Nd) (w : World) (h : SlE Ene w (.slice p n cp) l) (hl : l.length = n) (hn : n ≤ 1000) (hk : ¬ (MayT l ∧ m = n)) :
  Calls Tryz.prog 110 #[.agg (tr ⟨⟨p, n, cp⟩⟩), .slice q m cq] w (NumsOk [] false w) := by
 have HM := Lib.hid (fun W (g : Below w.heap.size w W) => zev ⟨p, n, cp⟩ l W (zad g h) (by omega))
 obtain ⟨W0, hW0⟩ : ∃ W0, W0 = w.alloc (.cells (tr ⟨⟨p, n, cp⟩⟩) 24) := ⟨_, rfl⟩
 have HB : Hid (Below w.heap.size w W0) := by rw [hW0]; exact below1
 have M0 : Hid (W0.heap[w.heap.size]? = some (.cells (tr ⟨⟨p, n, cp⟩⟩) 24 (0, 0))) := by rw [hW0]; exact heap_alloc_last w _
 have HW := Lib.hid hW0
 obtain ⟨r, hr⟩ : ∃ r, r = decide (MayT l) := ⟨_, rfl⟩
 rw [← hr] at HM
 have HK : Hid (r = true → ((m : Int) != (n : Int)) = true) := fun e => by
  rw [bne_iff_ne]
  intro e2
  exact hk ⟨of_decide_eq_true (hr.symm.trans e), by omega⟩
 clear hW0 h hl hn hk hr
 go_enter Tryz.func110, Tryz.ntmps110
 go_wp2_with fail
 rw [← HW.out]
 refine (HM.out W0 HB.out).mono ?_
 rintro e w1 ⟨rfl, g1⟩
 have G1 := Lib.hid (zab HB.out g1)
 obtain ⟨z0, z1, zl⟩ := zai (zac g1 M0.out)
 dsimp only at z0
 rw [za0] at z0
 clear g1
 cases r
 ·
  go_wp2_with fail
  go_ret2
  exact ⟨_, rfl, za8 _ _ _, G1.out⟩
 ·
  have t1 := HK.out rfl
  go_wp2_with fail
  go_ret2
  exact ⟨_, rfl, za8 _ _ _, G1.out⟩
theorem zuh (p q : Option Addr) (n cp cq : Nat) (l : List Nd) (a : List UInt64) (w : World) (h : SlE Ene w (.slice p n cp) l) (h' : SlE Enum w (.slice q n cq) a) (hl : l.length = n) (ha : a.length = n) (hm : MayT l) :
  Calls Tryz.prog 110 #[.agg (tr ⟨⟨p, n, cp⟩⟩), .slice q n cq] w (NumsOk (subL l a) (zez l a) w) := by
 have HM : Hid (∀ W, Below w.heap.size w W → Calls Tryz.prog 74 #[.agg (tr ⟨⟨p, n, cp⟩⟩)] W fun e w' => e = .returned (.bool true) ∧ Below W.heap.size W w') := fun W g => by
  have := zev ⟨p, n, cp⟩ l W (zad g h) (by have := hm.le; omega)
  rwa [decide_eq_true hm] at this
 have HAb : Hid (∀ W, Below w.heap.size w W → ∀ i k : Nat, i < n → k < n → Calls Tryz.prog 38 #[.agg (tr ⟨⟨p, n, cp⟩⟩), .int .i64 (i : Int), .int .i64 (k : Int)] W fun e w' => e = .returned (.bool (zat l i k)) ∧ Below W.heap.size W w') := fun W g i k hi hk => by
  have := zgc ⟨p, n, cp⟩ l (i : Int) (k : Int) W (zad g h) (by have := hm.le; omega)
  rwa [zdn hm (by omega) (by omega)] at this
 obtain ⟨W0, hW0⟩ : ∃ W0, W0 = w.alloc (.cells (tr ⟨⟨p, n, cp⟩⟩) 24) := ⟨_, rfl⟩
 have HB : Hid (Below w.heap.size w W0) := by rw [hW0]; exact below1
 have M0 : Hid (W0.heap[w.heap.size]? = some (.cells (tr ⟨⟨p, n, cp⟩⟩) 24 (0, 0))) := by rw [hW0]; exact heap_alloc_last w _
 have HW := Lib.hid hW0
 have HL := Lib.hid hl
 have HMm := Lib.hid hm
 have HN : Hid (n ≤ 12) := by show n ≤ 12; have := hm.le; omega
 have HLA := Lib.hid ha
 obtain ⟨b2, o2, rfl, q2, x2⟩ := zcm h' (by have := hm.pos; omega)
 have X2 := Lib.hid x2
 have t0 : ((n : Int) != (n : Int)) = false := by simp
 obtain ⟨ok, hok⟩ : ∃ ok, ok = zez l a := ⟨_, rfl⟩
 have HOK := Lib.hid hok
 rw [← hok]
 clear hW0 h h' hl ha hm q2 x2 hok
 go_enter Tryz.func110, Tryz.ntmps110
 go_wp2_with fail
 rw [← HW.out]
 refine (HM.out W0 HB.out).mono ?_
 rintro e w1 ⟨rfl, g1⟩
 have G1 := Lib.hid (zab HB.out g1)
 have M1 := Lib.hid (zac g1 M0.out)
 obtain ⟨z0, z1, zl⟩ := zai M1.out
 dsimp only at z0
 rw [za0] at z0
 clear g1
 go_wp2_with fail
 go_loopw [7, 8] (fun v i wr => ∃ j : Nat, j ≤ n ∧ i = .int .i64 (j : Int) ∧ (∀ x, x < j → subT l (fn a) x < 18446744073709551616) ∧ OwnE Enum wr w1.heap.size v (zcd (subT l (fn a)) j) ∧ Below w1.heap.size w1 wr) (fun _ i _ => n - (intOf i).toNat)
 case atStart => exact ⟨0, Nat.zero_le _, rfl, fun x hx => absurd hx (Nat.not_lt_zero _), za8 _ _ _, Below.refl _ _⟩
 case round =>
  obtain ⟨i, hi, rfl, hx, hown, hb⟩ := hrel
  obtain ⟨wo, rfl⟩ : ∃ wo : World, wo = wr := ⟨_, rfl⟩
  have HX := Lib.hid hx
  have HO := Lib.hid hown
  have HBB := Lib.hid hb
  obtain ⟨pv, cv, rfl⟩ := zdh hown (zdg _ i)
  clear hx hown hb
  by_cases hlt : i < n
  ·
   have i0 : (0 : Int) ≤ (i : Int) := by omega
   have i1 : (i : Int) < (n : Int) := by omega
   have u1 : (i : Int) + 1 < 10000 := by have := HN.out; omega
   have HLT := Lib.hid hlt
   have HLn := Lib.hid (zdg (subT l (fn a)) i)
   clear hlt
   go_wp2_with fail
   go_loopw [9, 10] (fun s k wr => ∃ j : Nat, j ≤ n ∧ k = .int .i64 (j : Int) ∧ s = .int .u64 (zg4 l a i j : Int) ∧ zg4 l a i j < 18446744073709551616 ∧ Below wo.heap.size wo wr) (fun _ k _ => n - (intOf k).toNat)
   case atStart => exact ⟨0, Nat.zero_le _, rfl, rfl, by rw [z1x]; omega, Below.refl _ _⟩
   case round =>
    obtain ⟨j, hj, rfl, rfl, hs, hb⟩ := hrel
    have HS := Lib.hid hs
    have HI := Lib.hid hb
    clear hs hb
    by_cases hjt : j < n
    ·
     have j0 : (0 : Int) ≤ (j : Int) := by omega
     have j1 : (j : Int) < (n : Int) := by omega
     have v1 : (j : Int) + 1 < 10000 := by have := HN.out; omega
     have HJT := Lib.hid hjt
     clear z0 z1 zl
     obtain ⟨z0, z1, zl⟩ := zai (zac (zab HBB.out HI.out) M1.out)
     dsimp only at z0
     rw [za0] at z0
     have HC := Lib.hid (HAb.out wr (zab G1.out (zab HBB.out HI.out)) i j HLT.out hjt)
     obtain ⟨r, hr⟩ : ∃ r, r = zat l i j := ⟨_, rfl⟩
     rw [← hr] at HC
     have HR := Lib.hid hr
     clear hjt hr
     go_wp2_with fail
     refine HC.out.mono ?_
     rintro e w3 ⟨rfl, g3⟩
     have G3 := Lib.hid (zab HI.out g3)
     clear g3 z0 z1 zl
     cases r
     ·
      have HE : Hid (zg4 l a i (j + 1) = zg4 l a i j) := ybu HR.out.symm
      go_wp2_with fail
      go_roundw
      case rel => exact ⟨j + 1, HJT.out, by go_num, by rw [HE.out], by rw [HE.out]; exact HS.out, G3.out⟩
      case measure => simp [intOf]; have := HJT.out; omega
     ·
      have HE : Hid (zg4 l a i (j + 1) = zg4 l a i j + fn a j) := z68 HR.out.symm
      have y1 := zbt (zbu (zab G1.out (zab HBB.out G3.out)) X2.out) (i := j) (by have := HLA.out; have := HJT.out; omega)
      obtain ⟨x, hx⟩ : ∃ x, x = zg4 l a i j := ⟨_, rfl⟩
      obtain ⟨y, hy⟩ : ∃ y, y = fn a j := ⟨_, rfl⟩
      rw [← hx, ← hy] at HE
      rw [← hy] at y1
      rw [← hx]
      have HA := Lib.hid (yb4 x y (by rw [hx]; exact HS.out) (by rw [hy]; exact yas _ _) w3)
      clear hx hy
      go_wp2_with fail
      refine HA.out.mono ?_
      rintro e w4 ⟨rfl, g4⟩
      have G4 := Lib.hid (zab G3.out g4)
      clear g4 y1
      by_cases hf : x + y < 18446744073709551616
      ·
       rw [show zht x y = true from decide_eq_true hf, show addV x y = x + y from if_pos hf]
       have HF := Lib.hid hf
       clear hf
       go_wp2_with fail
       go_roundw
       case rel => exact ⟨j + 1, HJT.out, by go_num, by rw [HE.out, Int.natCast_add], by rw [HE.out]; exact HF.out, G4.out⟩
       case measure => simp [intOf]; have := HJT.out; omega
      ·
       have hO : Hid (ok = false) := by
        show ok = false
        rw [HOK.out, ← Bool.not_eq_true]
        intro e
        have h1 := (zdj.1 e).2.2 i (by have := HL.out; have := HLT.out; omega)
        have h2 := ybt (l := l) (a := a) (i := i) (k := j + 1) (by have := HL.out; have := HJT.out; omega)
        have := HE.out
        omega
       rw [show zht x y = false from decide_eq_false hf]
       clear hf
       go_wp2_with fail
       go_ret2
       exact ⟨_, by rw [hO.out]; first | done | rfl, by rw [zse (by rw [← HOK.out]; exact hO.out)]; exact za8 _ _ _, zab G1.out (zab HBB.out G4.out)⟩
    ·
     obtain rfl : j = n := by omega
     have HE : Hid (zg4 l a i j = subT l (fn a) i) := by show zg4 l a i j = subT l (fn a) i; rw [← z67, HL.out]
     have O3 := Lib.hid (za5 HI.out HO.out)
     obtain ⟨x, hx⟩ : ∃ x, x = zg4 l a i j := ⟨_, rfl⟩
     rw [← hx] at HE
     rw [← hx]
     have HXs : Hid (x < 18446744073709551616) := by show x < _; rw [hx]; exact HS.out
     clear hjt hx
     go_wp2_with (at_builtin; refine za1 Knum _ rfl (.tmp 55) (.tmp 57) rfl w1.heap.size _ (zcd (subT l (fn a)) i) rfl (zaw O3.out _) _ [UInt64.ofNat x] rfl (zgb _ HXs.out _ rfl) (by have := HLn.out; have := HN.out; have := HLT.out; simp; omega) (by have := HBB.out.size; have := HI.out.size; simp; omega) ?_; intro v2 w4 ho4 hg4)
     go_roundw
     case rel =>
      refine ⟨i + 1, HLT.out, by go_num, fun x' hx' => ?_, by rw [zjg, ← HE.out]; exact ho4, (zab HBB.out (zab HI.out below1)).trans (hg4.own (zaw O3.out _) (by have := HBB.out.size; have := HI.out.size; simp; omega))⟩
      rcases Nat.lt_succ_iff_lt_or_eq.1 hx' with h | rfl
      ·
       exact HX.out x' h
      ·
       rw [← HE.out]; exact HXs.out
     case measure => simp [intOf]; have := HLT.out; omega
  ·
   obtain rfl : i = n := by omega
   have hO : Hid (ok = true) := by
    show ok = true
    rw [HOK.out]
    exact zdj.2 ⟨HMm.out, by rw [HLA.out, HL.out], fun x hx => HX.out x (by have := HL.out; omega)⟩
   clear hlt
   go_wp2_with fail
   go_ret2
   exact ⟨_, by rw [hO.out]; first | done | rfl, by rw [zsf (by rw [← HOK.out]; exact hO.out), HL.out]; exact zbi HO.out G1.out.size, zab G1.out HBB.out⟩
theorem yb5 (s : SlV) (v : Value) (l : List Nd) (a : List UInt64) (w : World) (h : SlE Ene w (sv s) l) (h' : SlE Enum w v a) (hn : l.length ≤ 1000) :
  Calls Tryz.prog 110 #[.agg (tr ⟨s⟩), v] w (NumsOk (subL l a) (zez l a) w) := by
 have hl := zbk h
 obtain ⟨p, n, cp⟩ := s
 dsimp only at hl
 obtain ⟨q, cq, e, _⟩ := zal h'
 by_cases hk : MayT l ∧ a.length = n
 ·
  rw [hk.2] at e
  subst e
  exact zuh p q n cp cq l a w h h' hl hk.2 hk.1
 ·
  have hO : zez l a = false := by
   rw [← Bool.not_eq_true]
   intro e
   exact hk ⟨(zdj.1 e).1, by rw [(zdj.1 e).2.1, hl]⟩
  rw [zse hO, hO]
  subst e
  exact zw8 p q n cp a.length cq l w h hl (by omega) hk
theorem zo2 (p q r : Option Addr) (n cp m cq k cr : Nat) (l : List Nd) (v : Vt) (bal : List UInt64) (w : World) (h : SlE Ene w (.slice p n cp) l) (h1 : SlE Elt w (.slice q m cq) v.l) (h2 : SlE Enum w (.slice r k cr) bal) (hn : l.length ≤ 1000) (hm : v.l.length ≤ 1000) (hk : bal.length ≤ 1000) :
  Calls Tryz.prog 66 #[.agg (tr ⟨⟨p, n, cp⟩⟩), .agg (vo ⟨⟨q, m, cq⟩, v.out⟩), .slice r k cr] w (NumsOk (wtsL l v bal) (fitB l v bal) w) := by
 have HO := Lib.hid (fun W (g : Below w.heap.size w W) => yca ⟨p, n, cp⟩ ⟨q, m, cq⟩ (.slice r k cr) l v bal W (zad g h) (zad g h1) (zad g h2) hn hm hk)
 have HSb := Lib.hid (fun W (u : Value) (g : Below w.heap.size w W) (hu : SlE Enum W u (ownL l v bal)) => yb5 ⟨p, n, cp⟩ u l (ownL l v bal) W (zad g h) hu hn)
 have HY : Hid (fitB l v bal = true → zez l (ownL l v bal) = true ∧ wtsL l v bal = subL l (ownL l v bal)) := fun e => ⟨z8t e, zsr e⟩
 have HNo : Hid (fitB l v bal = false → wtsL l v bal = []) := z8r
 obtain ⟨f, hf⟩ : ∃ f, f = fitB l v bal := ⟨_, rfl⟩
 rw [← hf] at HO HY HNo
 rw [← hf]
 obtain ⟨W0, hW0⟩ : ∃ W0, W0 = (w.alloc (.cells (tr ⟨⟨p, n, cp⟩⟩) 24)).alloc (.cells (vo ⟨⟨q, m, cq⟩, v.out⟩) 29) := ⟨_, rfl⟩
 obtain ⟨hB, k0, k1, hz0⟩ := zc2 w _ _ _ _ W0 hW0
 have HB := Lib.hid hB
 have HW := Lib.hid hW0
 have K0 := Lib.hid k0
 have z1 := (zai k0).2.1
 have y1 := (zbo k1).2.2.1
 clear hW0 h h1 h2 hB k0 k1 hz0 hn hm hk hf
 go_enter Tryz.func66, Tryz.ntmps66
 go_wp2_with fail
 rw [← HW.out]
 go_wp2_with fail
 refine (HO.out W0 HB.out).mono ?_
 rintro e w1 ⟨u1, rfl, ho, g1⟩
 have G1 := Lib.hid (zab HB.out g1)
 have M1 := Lib.hid (zac g1 K0.out)
 have HO1 := Lib.hid (za2 ho)
 clear g1 z1 y1 ho
 have z1 := (zai M1.out).2.1
 cases f
 ·
  have hX := HNo.out rfl
  go_wp2_with fail
  go_ret2
  exact ⟨_, rfl, by rw [hX]; exact za8 _ _ _, G1.out⟩
 ·
  obtain ⟨e1, e2⟩ := HY.out rfl
  rw [e1, ← e2] at HSb
  clear e1 e2
  go_wp2_with fail
  refine (HSb.out w1 u1 G1.out HO1.out).mono ?_
  rintro e w2 ⟨u2, rfl, ho, g2⟩
  have G2 := Lib.hid (zab G1.out g2)
  have HO2 := Lib.hid (zbi ho G1.out.size)
  clear g2 ho z1
  go_wp2_with fail
  go_ret2
  exact ⟨_, rfl, HO2.out, G2.out⟩
theorem zul (s t : SlV) (u : Value) (l : List Nd) (v : Vt) (bal : List UInt64) (w : World) (h : SlE Ene w (sv s) l) (h1 : SlE Elt w (sv t) v.l) (h2 : SlE Enum w u bal) (hn : l.length ≤ 1000) (hm : v.l.length ≤ 1000) (hk : bal.length ≤ 1000) :
  Calls Tryz.prog 66 #[.agg (tr ⟨s⟩), .agg (vo ⟨t, v.out⟩), u] w (NumsOk (wtsL l v bal) (fitB l v bal) w) := by
 obtain ⟨p, n, cp⟩ := s
 obtain ⟨q, m, cq⟩ := t
 have k2 := h2
 obtain ⟨r, cr, rfl, _⟩ := zal h2
 exact zo2 p q r n cp m cq _ cr l v bal w h h1 k2 hn hm hk
theorem zws (p q : Option Addr) (n m cl ck : Nat) (w : World) (hl : n ≠ m) :
  Calls Tryz.prog 67 #[.slice p n cl, .slice q m ck] w fun e w' => e = .returned (.bool false) ∧ Below w.heap.size w w' := by
 have e1 : ((n : Int) == (m : Int)) = false := by simp; omega
 clear hl
 go_enter Tryz.func67, Tryz.ntmps67
 go_wp2_with fail
 go_ret
 exact ⟨rfl, Below.refl _ _⟩
theorem zwr (p q : Option Addr) (n cl ck : Nat) (l k : List UInt64) (w : World) (h : SlE Enum w (.slice p n cl) l) (h' : SlE Enum w (.slice q n ck) k) (hl : l.length = n) (hk : k.length = n) (hn : n ≤ 1000) :
  Calls Tryz.prog 67 #[.slice p n cl, .slice q n ck] w fun e w' => e = .returned (.bool (decide (l = k))) ∧ Below w.heap.size w w' := by
 have HS := Lib.hid h
 have HT := Lib.hid h'
 have HL := Lib.hid hl
 have HK := Lib.hid hk
 have HN := Lib.hid hn
 obtain ⟨r, hr⟩ : ∃ r, r = decide (l = k) := ⟨_, rfl⟩
 rw [← hr]
 have HR := Lib.hid hr
 clear h h' hl hk hn hr
 go_enter Tryz.func67, Tryz.ntmps67
 go_wp2_with fail
 go_loopw [5] (fun i wr => ∃ j : Nat, j ≤ n ∧ i = .int .i64 (j : Int) ∧ (∀ x, x < j → fn l x = fn k x) ∧ Below w.heap.size w wr) (fun i _ => n - (intOf i).toNat)
 case atStart => exact ⟨0, Nat.zero_le _, rfl, fun x hx => absurd hx (Nat.not_lt_zero _), Below.refl _ _⟩
 case round =>
  obtain ⟨j, hj, rfl, hx, hb⟩ := hrel
  have HX := Lib.hid hx
  have HB := Lib.hid hb
  clear hx hb
  by_cases hlt : j < n
  ·
   have i0 : (0 : Int) ≤ (j : Int) := by omega
   have i1 : (j : Int) < (n : Int) := by omega
   have u1 : (j : Int) + 1 < 10000 := by have := HN.out; omega
   obtain ⟨b1, o1, rfl, q1, x1⟩ := zcm (zad HB.out HS.out) (by have := HL.out; omega)
   obtain ⟨b2, o2, rfl, q2, x2⟩ := zcm (zad HB.out HT.out) (by have := HK.out; omega)
   have y1 := zbt x1 (i := j) (by have := HL.out; omega)
   have y2 := zbt x2 (i := j) (by have := HK.out; omega)
   clear x1 x2 q1 q2
   obtain ⟨yl, hyl⟩ : ∃ y, y = fn l j := ⟨_, rfl⟩
   obtain ⟨yk, hyk⟩ : ∃ y, y = fn k j := ⟨_, rfl⟩
   rw [← hyl] at y1
   rw [← hyk] at y2
   have HYl := Lib.hid hyl
   have HYk := Lib.hid hyk
   clear hyl hyk
   by_cases he : yl = yk
   ·
    have HE : Hid (fn l j = fn k j) := by show _ = _; rw [← HYl.out, ← HYk.out]; exact he
    rw [he] at y1
    clear he
    go_wp2_with fail
    go_quiet (fail)
    go_wp2_with fail
    go_roundw
    case rel => exact ⟨j + 1, by omega, by go_num, fun x hx => by
     rcases Nat.lt_succ_iff_lt_or_eq.1 hx with h | rfl
     ·
      exact HX.out x h
     ·
      exact HE.out, zah HB.out _⟩
    case measure => simp [intOf]; omega
   ·
    have hR : Hid (r = false) := by
     show r = false
     rw [HR.out, decide_eq_false_iff_not]
     intro e
     exact he (by rw [HYl.out, HYk.out, e])
    have t1 : ((yl : Int) == (yk : Int)) = false := by rw [beq_eq_false_iff_ne]; omega
    have t1' : ((yl : Int) != (yk : Int)) = true := by rw [bne_iff_ne]; omega
    clear he
    go_wp2_with fail
    go_quiet (fail)
    go_wp2_with fail
    go_ret
    exact ⟨by rw [hR.out]; first | done | rfl, zah HB.out _⟩
  ·
   obtain rfl : j = n := by omega
   have hR : Hid (r = true) := by
    show r = true
    rw [HR.out, decide_eq_true_iff]
    exact z5e (by rw [HL.out, HK.out]) fun i hi => HX.out i (by have := HK.out; omega)
   go_wp2_with fail
   go_ret
   exact ⟨by rw [hR.out]; first | done | rfl, HB.out⟩
theorem z7i (v u : Value) (l k : List UInt64) (w : World) (h : SlE Enum w v l) (h' : SlE Enum w u k) (hn : l.length ≤ 1000) :
  Calls Tryz.prog 67 #[v, u] w fun e w' => e = .returned (.bool (decide (l = k))) ∧ Below w.heap.size w w' := by
 have hs := h
 have ht := h'
 obtain ⟨p, cl, rfl, _⟩ := zal h
 obtain ⟨q, ck, rfl, _⟩ := zal h'
 by_cases e : l.length = k.length
 ·
  rw [← e] at ht ⊢
  exact zwr p q l.length cl ck l k w hs ht rfl e.symm hn
 ·
  rw [decide_eq_false (fun he => e (by rw [he]))]
  exact zws p q _ _ cl ck w e
open Go.RowKit
theorem zcv {l : List Ck} {i : Nat} (h : i < l.length) : ckAt l i = l[i] := by unfold ckAt; rw [List.getD_eq_getElem?_getD, List.getElem?_eq_getElem h]; rfl
theorem zdq {w : World} {p : Option Addr} {n cp : Nat} {l : List Ck} (h : SlE Ecc w (.slice p n cp) l) (h0 : 0 < l.length) : ∃ b o, p = some ⟨b, o, none⟩ ∧ b < w.heap.size ∧ w.rangeAt b o (zaq Ecc l) := by
 obtain ⟨b, o, c, e, _, q, x⟩ := zcz h h0
 injection e with e1 e2 e3
 exact ⟨b, o, e1, q, x⟩
section
variable {w : World} {b off : Nat} {l : List Ck} {i : Nat}
theorem z36 (h : w.rangeAt b off (zaq Ecc l)) (hi : i < l.length) : w.rangeAt b (off + i * 33) (ccL (ckAt l i)) := by
 rw [zcv hi]; exact zdi h hi
theorem zgi (h : w.rangeAt b off (zaq Ecc l)) (hi : i < l.length) : ldA w (.pointer (some ⟨b, off + i * 33, none⟩)) 33 = some (cc (ckAt l i)) := by
 have := zp0 h hi
 rw [zcv hi]
 exact this.trans (by rw [show (Ecc.enc l[i]).toArray = cc l[i] from Array.toList_inj.1 (by rw [zbm]; rfl)])
theorem yeq (h : w.rangeAt b off (zaq Ecc l)) (hi : i < l.length) : w.cell? ⟨b, off + i * 33, none⟩ = some (.int .u64 ((ckAt l i).epoch.toNat : Int)) := zfy (z36 h hi)
end
@[go_sem ↓] theorem z9o (ρ : Operand → Value) (dst : Option Tmp) (x : Operand) (ty : TypeId) (pos : String) (after : Array Edge) (guard : Option (Nat × Bool)) (w : World) (hx : okA 33 (ρ x) = true) :
  (execOp ρ { dst, op := .buildSlice 32 1 #[(0, x)], type := ty, pos, after, guard }).run Tryz.prog w = .ok (.value (.slice (some ⟨w.heap.size, 0, none⟩) 1 1)) (w.alloc (.cells (ze4 (ρ x)) 36)) := by
 obtain ⟨c, hc, hn⟩ : ∃ c, ρ x = .agg c ∧ c.size = 33 := by
  unfold okA at hx
  split at hx
  ·
   rename_i c hc
   rw [Bool.and_eq_true, beq_iff_eq] at hx
   exact ⟨c, hc, hx.1⟩
  ·
   cases hx
 have hp : (1 * 33 > 2 ^ 24) = False := by simp
 have h0 : (1 * 33 = 0) = False := by simp
 unfold execOp
 simp only [Instr.buildSlice, Sem.run_bind, run_underlying Tryz.underlying32, Result.andThen_ok, Tryz.sizeOf36, hp, h0, if_false, zss, Value.cells]
 simp only [List.map_toArray, List.map_cons, List.map_nil, hc, Instr.fill, Value.cells, hn, Nat.zero_mul]
 simp [ze4]
 rw [zgx _ c (by simp [hn])]
 rfl
theorem zfx (w : World) (x : Ck) (b : Nat) (hb : b = w.heap.size) : SlE Ecc (w.alloc (.cells (cc x) 36)) (.slice (some ⟨b, 0, none⟩) 1 1) [x] :=
 zdu w _ 1 _ _ b rfl hb (by simp [zaq, Ecc, zbm])
theorem zgz {w : World} {g : Nat} {c r : Ck} (hg : w.heap[g]? = some (.cells (cc c) 36 (0, 0))) : (stA w (.pointer (some ⟨g, 0, none⟩)) (.agg (cc r))).heap[g]? = some (.cells (cc r) 36 (0, 0)) := by
 rw [zb6 hg (by rw [zax, zax]; omega)]
 congr 2
 apply Array.toList_inj.1
 unfold zba
 simp only [List.take_zero, List.nil_append, Nat.zero_add]
 rw [List.drop_of_length_le (by rw [Array.length_toList, zax, zax]; omega), List.append_nil]
theorem ydt {l : List Ck} {c : Ck} : c ∈ l ↔ ∃ i, i < l.length ∧ ckAt l i = c := by
 constructor
 ·
  intro h
  obtain ⟨i, hi, rfl⟩ := List.getElem_of_mem h
  exact ⟨i, hi, zcv hi⟩
 ·
  rintro ⟨i, hi, rfl⟩
  rw [zcv hi]; exact List.getElem_mem hi
theorem z2i (p : Option Addr) (n cp : Nat) (l : List Ck) (c : Ck) (w : World) (h : SlE Ecc w (.slice p n cp) l) (hl : l.length = n) (hn : n ≤ 1000) :
  Calls Tryz.prog 68 #[.slice p n cp, .agg (cc c)] w fun e w' => e = .returned (.bool (decide (c ∈ l))) ∧ Below w.heap.size w w' := by
 obtain ⟨r, hr⟩ : ∃ r, r = decide (c ∈ l) := ⟨_, rfl⟩
 rw [← hr]
 have HR := Lib.hid hr
 have HL := Lib.hid hl
 have HN := Lib.hid hn
 obtain ⟨W0, hW0⟩ : ∃ W0, W0 = w.alloc (.cells (cc c) 36) := ⟨_, rfl⟩
 have HB : Hid (Below w.heap.size w W0) := by show Below _ _ _; rw [hW0]; exact below1
 have HW := Lib.hid hW0
 have HS := Lib.hid (zad HB.out h)
 have hz : W0.heap[w.heap.size]? = some (.cells (cc c) 36 (0, 0)) := by rw [hW0]; exact heap_alloc_last w _
 have HC := Lib.hid hz
 clear h hl hn hr hW0 hz
 go_enter Tryz.func68, Tryz.ntmps68
 go_upto_region 1 with fail
 rw [← HW.out]
 go_wp2_with fail
 go_loopw [5] (fun i wr => ∃ j : Nat, j ≤ n ∧ i = .int .i64 (j : Int) ∧ (∀ x, x < j → ckAt l x ≠ c) ∧ Below W0.heap.size W0 wr) (fun i _ => n - (intOf i).toNat)
 case atStart => exact ⟨0, Nat.zero_le _, rfl, fun x hx => absurd hx (Nat.not_lt_zero _), Below.refl _ _⟩
 case round =>
  obtain ⟨j, hj, rfl, hx, hg⟩ := hrel
  have HX := Lib.hid hx
  have HG := Lib.hid hg
  clear hx hg
  by_cases hlt : j < n
  ·
   have i0 : (0 : Int) ≤ (j : Int) := by omega
   have i1 : (j : Int) < (n : Int) := by omega
   have u1 : (j : Int) + 1 < 10000 := by have := HN.out; omega
   have d0 : decide ((j : Int) < (n : Int)) = true := decide_eq_true i1
   have d0' : decide (j < n) = true := decide_eq_true hlt
   have HLT := Lib.hid hlt
   obtain ⟨b1, o1, rfl, _, x1⟩ := zdq (zad HG.out HS.out) (by have := HL.out; omega)
   have y1 := zgi x1 (i := j) (by have := HL.out; omega)
   have y2 := (ck_v (zac HG.out HC.out)).a
   have HLj := Lib.hid (ydt (l := l) (c := c))
   clear x1 hlt
   by_cases he : ckAt l j = c
   ·
    have hF : Hid (r = true) := by
     show r = true
     rw [HR.out, decide_eq_true_iff]
     exact HLj.out.2 ⟨j, by rw [HL.out]; exact HLT.out, he⟩
    rw [he] at y1
    clear he
    go_wp2_with fail
    go_quiet (fail)
    go_wp2_with fail
    go_ret
    exact ⟨by rw [hF.out]; first | done | rfl, zab HB.out (zah HG.out _)⟩
   ·
    have HE := Lib.hid he
    have t1 : decide (ckAt l j = c) = false := decide_eq_false he
    generalize hq : ckAt l j = La at *
    have HQ := Lib.hid hq
    clear he hq
    go_wp2_with fail
    go_quiet (fail)
    go_wp2_with fail
    go_roundw
    case rel => exact ⟨j + 1, HLT.out, by go_num, (fun x hx => by
     rcases Nat.lt_succ_iff_lt_or_eq.1 hx with h | rfl
     ·
      exact HX.out x h
     ·
      rw [HQ.out]; exact HE.out), zah HG.out _⟩
    case measure => simp [intOf]; have := HLT.out; omega
  ·
   obtain rfl : j = n := by omega
   have d0 : decide ((j : Int) < (j : Int)) = false := decide_eq_false (Int.lt_irrefl _)
   have d0' : decide (j < j) = false := decide_eq_false (Nat.lt_irrefl _)
   have hF : Hid (r = false) := by
    show r = false
    rw [HR.out, decide_eq_false_iff_not, ydt]
    rintro ⟨i, hi, e⟩
    exact HX.out i (by rw [← HL.out]; exact hi) e
   clear hlt
   go_wp2_with fail
   go_ret
   exact ⟨by rw [hF.out]; first | done | rfl, zab HB.out HG.out⟩
theorem zlx (v : Value) (l : List Ck) (c : Ck) (w : World) (h : SlE Ecc w v l) (hn : l.length ≤ 1000) :
  Calls Tryz.prog 68 #[v, .agg (cc c)] w fun e w' => e = .returned (.bool (decide (c ∈ l))) ∧ Below w.heap.size w w' := by
 have k := h
 obtain ⟨p, cp, rfl, _⟩ := zal h
 exact z2i p _ cp l c w k rfl hn
theorem zmr : ∀ args w, (callFunc 68 args).run Tryz.prog w = .ok (.enter 68 args) w := za7 Tryz.func68 (by kernel_rfl) (by kernel_rfl)
theorem zif (s : SlV) (l : List Nd) (c d : Ck) (w : World) (h : SlE Ene w (sv s) l) (hn : l.length ≤ 1000) :
  Calls Tryz.prog 72 #[.agg (tr ⟨s⟩), .agg (cc c), .agg (cc d)] w fun e w' => e = .returned (.bool (zbz l c d)) ∧ Below w.heap.size w w' := by
 have HF := Lib.hid (fun r W (g : Below w.heap.size w W) => zg6 s l r W (zad g h) hn)
 have HA := Lib.hid (fun W (g : Below w.heap.size w W) => zgc s l (zaz l d.root) (zaz l c.root) W (zad g h) hn)
 obtain ⟨r, hr⟩ : ∃ r, r = zbz l c d := ⟨_, rfl⟩
 rw [← hr]
 rw [show zbp l (zaz l d.root) (zaz l c.root) = r from hr.symm] at HA
 have HFc := Lib.hid (HF.out c.root)
 have HFd := Lib.hid (HF.out d.root)
 generalize zaz l c.root = x at *
 generalize zaz l d.root = y at *
 obtain ⟨W0, hW0⟩ : ∃ W0, W0 = ((w.alloc (.cells (tr ⟨s⟩) 24)).alloc (.cells (cc c) 36)).alloc (.cells (cc d) 36) := ⟨_, rfl⟩
 obtain ⟨hB, k0, k1, k2, hz0⟩ := zf2 w _ _ _ _ _ _ W0 hW0
 have HB := Lib.hid hB
 have HW := Lib.hid hW0
 have z0 := (zai k0).2.1
 have z1 := zb0 k1
 have z2 := zb0 k2
 clear hW0 h hn hB k0 k1 k2 hz0 hr HF
 go_enter Tryz.func72, Tryz.ntmps72
 go_upto_region 1 with fail
 rw [← HW.out]
 have L0 := fun p : Wd W0.drew => zbb z0 (by decide) p
 have L1 := fun p : Wd W0.drew => zbb z1 (by decide) p
 have L2 := fun p : Wd W0.drew => zbb z2 (by decide) p
 clear z0 z1 z2
 refine zaj [4, 8, 9] (by kernel_rfl) (by kernel_rfl) (by kernel_rfl) ?_
 repeat (first | (refine zae rfl rfl _ zaf ?_; (first | go_big_quiet_step (fail) | quiet_step (fail)); refine wpQuiet_nil ?_) | refine zag rfl ?_)
 refine zan rfl rfl rfl zco #[.agg (tr ⟨s⟩), .agg (rc d.root)] rfl ?_
 refine (HFd.out _ (zab HB.out (zah (Below.refl _ _) 1))).mono ?_
 rintro e u ⟨rfl, g⟩
 refine ⟨_, rfl, g, ?_⟩
 simp only [Act.put, List.setIfInBounds_toArray, List.set_cons_zero, List.set_cons_succ]
 have G : Hid (Below W0.heap.size W0 u) := zab (zah (Below.refl _ _) 1) g
 clear g
 repeat (first | (refine zae rfl rfl _ zaf ?_; (first | go_big_quiet_step (fail) | quiet_step (fail)); refine wpQuiet_nil ?_) | refine zag rfl ?_)
 refine zan rfl rfl rfl zco #[.agg (tr ⟨s⟩), .agg (rc c.root)] rfl ?_
 refine (HFc.out _ (zab HB.out G.out)).mono ?_
 rintro e u2 ⟨rfl, g⟩
 refine ⟨_, rfl, g, ?_⟩
 simp only [Act.put, List.setIfInBounds_toArray, List.set_cons_zero, List.set_cons_succ]
 replace G : Hid (Below W0.heap.size W0 u2) := zab G.out g
 clear g
 repeat (first | (refine zae rfl rfl _ zaf ?_; (first | go_big_quiet_step (fail) | quiet_step (fail)); refine wpQuiet_nil ?_) | refine zag rfl ?_)
 refine zan rfl rfl rfl zer #[.agg (tr ⟨s⟩), .int .i64 y, .int .i64 x] rfl ?_
 refine (HA.out _ (zab HB.out G.out)).mono ?_
 rintro e u3 ⟨rfl, g⟩
 refine ⟨_, rfl, g, ?_⟩
 simp only [Act.put, List.setIfInBounds_toArray, List.set_cons_zero, List.set_cons_succ]
 replace G : Hid (Below W0.heap.size W0 u3) := zab G.out g
 clear g
 repeat (first | (refine zae rfl rfl _ zaf ?_; (first | go_big_quiet_step (fail) | quiet_step (fail)); refine wpQuiet_nil ?_) | refine zag rfl ?_)
 refine za3 ?_
 clear L0 L1 L2
 go_wp2_with fail
 go_ret
 exact ⟨rfl, zab HB.out G.out⟩
theorem ze7 : ∀ args w, (callFunc 72 args).run Tryz.prog w = .ok (.enter 72 args) w := za7 Tryz.func72 (by kernel_rfl) (by kernel_rfl)
def zrp (b : Nat) : Nat := 2 * (b / 3) + b % 3
theorem z1l (a b : Nat) : decide (zrp b ≤ a) = zlf a b := z6e a b
theorem z7h (b : Nat) (hb1 : b < 18446744073709551616) (w : World) :
  Calls Tryz.prog 206 #[.int .u64 (b : Int)] w fun e w' => e = .returned (.int .u64 (zrp b : Int)) ∧ Below w.heap.size w w' := by
 have hb0 : (0 : Int) ≤ (b : Int) := by omega
 have hb2 : (b : Int) < 18446744073709551616 := by omega
 rcases (by omega : b % 3 = 0 ∨ b % 3 = 1 ∨ b % 3 = 2) with h | h | h
 ·
  rw [show (zrp b : Int) = 2 * ((b : Int) / 3) by unfold zrp; omega]
  have h1 : ((b : Int) % 3 == 1) = false := beq_eq_false_iff_ne.2 (by omega)
  have h2 : ((b : Int) % 3 == 2) = false := beq_eq_false_iff_ne.2 (by omega)
  clear h hb1
  go_enter Tryz.func206, Tryz.ntmps206
  go_wp2
  go_ret
  exact ⟨rfl, Below.refl _ _⟩
 ·
  rw [show (zrp b : Int) = 2 * ((b : Int) / 3) + 1 by unfold zrp; omega]
  have h1 : ((b : Int) % 3 == 1) = true := beq_iff_eq.2 (by omega)
  clear h hb1
  go_enter Tryz.func206, Tryz.ntmps206
  go_wp2
  go_ret
  exact ⟨rfl, Below.refl _ _⟩
 ·
  rw [show (zrp b : Int) = 2 * ((b : Int) / 3) + 2 by unfold zrp; omega]
  have h1 : ((b : Int) % 3 == 1) = false := beq_eq_false_iff_ne.2 (by omega)
  have h2 : ((b : Int) % 3 == 2) = true := beq_iff_eq.2 (by omega)
  clear h hb1
  go_enter Tryz.func206, Tryz.ntmps206
  go_wp2
  go_ret
  exact ⟨rfl, Below.refl _ _⟩
theorem z7g (a b : Nat) (hb : b < 18446744073709551616) (w : World) :
  Calls Tryz.prog 193 #[.int .u64 (a : Int), .int .u64 (b : Int)] w fun e w' => e = .returned (.bool (zlf a b)) ∧ Below w.heap.size w w' := by
 rw [← z1l a b]
 have c := Lib.hid (fun W => z7h b hb W)
 obtain ⟨m, hm⟩ : ∃ m, m = zrp b := ⟨_, rfl⟩
 rw [← hm] at c
 rw [← hm]
 obtain ⟨r, hr⟩ : ∃ r, r = decide (m ≤ a) := ⟨_, rfl⟩
 have d0 : decide ((m : Int) ≤ (a : Int)) = r := by rw [hr]; congr 1; rw [eq_iff_iff]; omega
 have d0' : decide (m ≤ a) = r := hr.symm
 rw [← hr]
 clear hm hb hr
 go_enter Tryz.func193, Tryz.ntmps193
 go_wp2_with fail
 refine (c.out _).mono ?_
 rintro e w1 ⟨rfl, g⟩
 go_wp2_with fail
 go_ret
 exact ⟨rfl, g⟩
theorem z7p (p : Option Addr) (n cp : Nat) (l : List UInt64) (mask : UInt64) (w : World) (h : SlE Enum w (.slice p n cp) l) (hl : l.length = n) (hn : n ≤ 1152921504606846976) :
  Calls Tryz.prog 194 #[.slice p n cp, .int .u64 (mask.toNat : Int)] w fun e w' => e = .returned (.int .u64 (ofS l mask : Int)) ∧ Below w.heap.size w w' := by
 have HMy := Lib.hid (zjm (.slice p n cp) l w h (by omega))
 have HH := Lib.hid (fun (v : Nat) (hv : v < 64) W => zuj mask hv W)
 obtain ⟨m, hm⟩ : ∃ m, m = (mask.toNat : Int) := ⟨_, rfl⟩
 rw [← hm] at HH
 rw [← hm]
 have HS := Lib.hid h
 have HL := Lib.hid hl
 obtain ⟨b, hb⟩ : ∃ b, b = mayB l := ⟨_, rfl⟩
 rw [← hb] at HMy
 have HBb := Lib.hid hb
 clear hm h hl hn hb
 go_enter Tryz.func194, Tryz.ntmps194
 go_wp2_with fail
 refine HMy.out.mono ?_
 rintro e w1 ⟨rfl, g1⟩
 have G1 := Lib.hid g1
 clear g1
 cases b
 ·
  have HE : Hid (ofS l mask = 0) := Lib.hid (z6t HBb.out.symm)
  go_wp2_with fail
  go_loopw [5, 7] (fun o i wr => i = .int .i64 0 ∧ o = .int .u64 0 ∧ wr = w1) (fun _ _ _ => 0)
  case atStart => exact ⟨rfl, rfl, rfl⟩
  case round =>
   obtain ⟨rfl, rfl, rfl⟩ := hrel
   by_cases h0 : 0 < n
   ·
    have d0 : decide ((0 : Int) < (n : Int)) = true := decide_eq_true (by omega)
    have d1 : decide (0 < n) = true := decide_eq_true h0
    clear h0
    go_wp2_with fail
    go_ret
    exact ⟨by rw [HE.out]; first | done | rfl, G1.out⟩
   ·
    have d0 : decide ((0 : Int) < (n : Int)) = false := decide_eq_false (by omega)
    have d1 : decide (0 < n) = false := decide_eq_false h0
    clear h0
    go_wp2_with fail
    go_ret
    exact ⟨by rw [HE.out]; first | done | rfl, G1.out⟩
 ·
  have hmay := HBb.out.symm
  have HE : Hid (ofS l mask = ofN (fn l) n mask) := by show _ = _; rw [zwt hmay, HL.out]
  have HPt : Hid (∀ k, k ≤ n → ofN (fn l) k mask ≤ 8796093022208) := fun k hk => z6w hmay (by rw [HL.out]; exact hk)
  have HN : Hid (n ≤ 8) := by show n ≤ 8; have := (zb7.1 hmay).2.1; rw [HL.out] at this; exact this
  clear hmay
  go_wp2_with fail
  go_loopw [5, 7] (fun o i wr => ∃ j : Nat, j ≤ n ∧ i = .int .i64 (j : Int) ∧ o = .int .u64 (ofN (fn l) j mask : Int) ∧ Below w1.heap.size w1 wr) (fun _ i _ => n - (intOf i).toNat)
  case atStart => exact ⟨0, Nat.zero_le _, rfl, rfl, Below.refl _ _⟩
  case round =>
   obtain ⟨j, hj, rfl, rfl, hb⟩ := hrel
   have HB := Lib.hid hb
   clear hb
   by_cases hlt : j < n
   ·
    have i0 : (0 : Int) ≤ (j : Int) := by omega
    have i1 : (j : Int) < (n : Int) := by omega
    have u1 : (j : Int) + 1 < 1152921504606846980 := by have := HN.out; omega
    have HC := Lib.hid (HH.out j (by have := HN.out; omega) wr)
    obtain ⟨b, hb⟩ : ∃ b, b = hasB mask j := ⟨_, rfl⟩
    rw [← hb] at HC
    have HBb2 := Lib.hid hb
    have HLT := Lib.hid hlt
    have ps := HPt.out (j + 1) hlt
    obtain ⟨o, ho⟩ : ∃ o, o = ofN (fn l) j mask := ⟨_, rfl⟩
    obtain ⟨y, hy⟩ : ∃ y, y = fn l j := ⟨_, rfl⟩
    have HYo : Hid (hasB mask j = true → ofN (fn l) (j + 1) mask = o + y) := fun e => by rw [ho, hy]; exact zwu _ e
    have HNo : Hid (hasB mask j = false → ofN (fn l) (j + 1) mask = o) := fun e => by rw [ho]; exact z1s _ e
    have HSum : Hid (hasB mask j = true → o + y ≤ 8796093022208) := fun e => by rw [← HYo.out e]; exact ps
    have HY := Lib.hid hy
    rw [← ho]
    clear hlt hb ho hy ps
    go_wp2_with fail
    refine HC.out.mono ?_
    rintro e w2 ⟨rfl, g⟩
    have B2 := Lib.hid (zab HB.out g)
    clear g
    cases b
    ·
     have HX := Lib.hid (HNo.out HBb2.out.symm)
     go_wp2_with fail
     go_roundw
     case rel => exact ⟨j + 1, HLT.out, by go_num, by rw [HX.out], B2.out⟩
     case measure => simp [intOf]; have := HLT.out; omega
    ·
     have HX := Lib.hid (HYo.out HBb2.out.symm)
     have hsum := HSum.out HBb2.out.symm
     obtain ⟨b1, o1, rfl, q1, x1⟩ := zcm (zad (zab G1.out B2.out) HS.out) (by have := HL.out; have := HLT.out; omega)
     have y1 := zbt x1 (i := j) (by have := HL.out; have := HLT.out; omega)
     rw [← HY.out] at y1
     have u2 : (o : Int) + (y : Int) < 18446744073709551616 := by omega
     clear hsum x1 q1
     go_wp2_with fail
     go_roundw
     case rel => exact ⟨j + 1, HLT.out, by go_num, by rw [HX.out]; first | done | rfl | (rw [Int.natCast_add]), B2.out⟩
     case measure => simp [intOf]; have := HLT.out; omega
   ·
    obtain rfl : j = n := by omega
    clear hlt
    go_wp2_with fail
    go_ret
    exact ⟨by rw [HE.out]; first | done | rfl, zab G1.out HB.out⟩
theorem z7o (v : Value) (l : List UInt64) (mask : UInt64) (w : World) (h : SlE Enum w v l) (hn : l.length ≤ 1152921504606846976) :
  Calls Tryz.prog 194 #[v, .int .u64 (mask.toNat : Int)] w fun e w' => e = .returned (.int .u64 (ofS l mask : Int)) ∧ Below w.heap.size w w' := by
 have k := h
 obtain ⟨p, cp, rfl, _⟩ := zal h
 exact z7p p _ cp l mask w k rfl hn
theorem z2d (v : Value) (l : List UInt64) (w : World) (h : SlE Enum w v l) (hn : l.length ≤ 1152921504606846976) :
  Calls Tryz.prog 195 #[v] w fun e w' => e = .returned (.int .u64 (totS l : Int)) ∧ Below w.heap.size w w' := by
 have HC := Lib.hid (z7o v l allM w h hn)
 rw [show ((allM.toNat : Nat) : Int) = 18446744073709551615 from rfl] at HC
 obtain ⟨t, ht⟩ : ∃ t, t = totS l := ⟨_, rfl⟩
 rw [show ofS l allM = t from ht.symm] at HC
 rw [← ht]
 clear h hn ht
 go_enter Tryz.func195, Tryz.ntmps195
 go_wp2_with fail
 refine HC.out.mono ?_
 rintro e w1 ⟨rfl, g⟩
 go_wp2_with fail
 go_ret
 exact ⟨rfl, g⟩
theorem z7n (v : Value) (l : List UInt64) (mask : UInt64) (w : World) (h : SlE Enum w v l) (hn : l.length ≤ 1152921504606846976) :
  Calls Tryz.prog 174 #[v, .int .u64 (mask.toNat : Int)] w fun e w' => e = .returned (.bool (zt4 l mask)) ∧ Below w.heap.size w w' := by
 have HM := Lib.hid (zjm v l w h hn)
 have HO := Lib.hid (fun W (g : Below w.heap.size w W) => z7o v l mask W (zad g h) hn)
 have HT := Lib.hid (fun W (g : Below w.heap.size w W) => z2d v l W (zad g h) hn)
 have HX := Lib.hid (fun W => z7g (ofS l mask) (totS l) (by have : totS l ≤ 8796093022208 := z6s; omega) W)
 obtain ⟨m, hm⟩ : ∃ m, m = (mask.toNat : Int) := ⟨_, rfl⟩
 rw [← hm] at HO
 rw [← hm]
 have he : zt4 l mask = (mayB l && zlf (ofS l mask) (totS l)) := rfl
 rw [he]
 generalize zlf (ofS l mask) (totS l) = r at *
 generalize ofS l mask = o at *
 generalize totS l = t at *
 generalize mayB l = b at *
 clear h hn hm he
 go_enter Tryz.func174, Tryz.ntmps174
 go_wp2_with fail
 refine HM.out.mono ?_
 rintro e w1 ⟨rfl, g1⟩
 have G1 := Lib.hid g1
 clear g1
 go_wp2_with fail
 refine (HO.out _ G1.out).mono ?_
 rintro e w2 ⟨rfl, g⟩
 have G2 := Lib.hid (zab G1.out g)
 clear g
 go_wp2_with fail
 refine (HT.out _ G2.out).mono ?_
 rintro e w3 ⟨rfl, g⟩
 have G3 := Lib.hid (zab G2.out g)
 clear g
 go_wp2_with fail
 refine (HX.out _).mono ?_
 rintro e w4 ⟨rfl, g⟩
 have G4 := Lib.hid (zab G3.out g)
 clear g
 cases b <;> cases r <;> (
  go_wp2_with fail
  go_ret
  exact ⟨rfl, G4.out⟩)
end Go.Proofs.YtkalofboioffiaaGreat
