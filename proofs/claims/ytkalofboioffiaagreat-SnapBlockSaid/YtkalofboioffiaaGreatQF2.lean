import Derived.Test.YtkalofboioffiaaGreatQF1
import Derived.Test.YtkalofboioffiaaGreatQC1
import Derived.Test.YtkalofboioffiaaGreatQ38
namespace Go.Proofs.YtkalofboioffiaaGreat
open Go.RowKit
set_option maxRecDepth 200000
set_option maxHeartbeats 64000000
theorem zy0 (cf : Nat) (lb : Array Value) (eg : ∀ args w, (callFunc cf args).run Tryz.prog w = .ok (.enter cf args) w) (x : En) (g : Eg) (w : World) (h : LaidG w x g) (sg : zcv g) (F : Eg) (N : Nat)
  (no : mayG g = false → F = g ∧ N = 1) (hd : mayG g = true → ∀ y W, Below w.heap.size w W → OwnG W w.heap.size y g → Calls Tryz.prog cf (#[.agg (en y)] ++ lb) W (EgErB F N w.heap.size W)) :
  Calls Tryz.prog 53 #[.agg (en x), .func (.func cf) #[] lb] w (EgErB F N w.heap.size w) := by
 obtain ⟨W0, hW0⟩ : ∃ W0, W0 = (w.alloc (.cells (en x) 38)).alloc (.cells (en zen) 38) := ⟨_, rfl⟩
 obtain ⟨hB, q0, q2, _⟩ := zdb w _ _ _ _ W0 hW0
 have A : Hid (Gp w x g (w.heap.size + 1) W0 w.heap.size x g) := zlc h hB q0 ⟨_, q2⟩ (Nat.le_refl _) (by omega) (by omega)
 have HW := Lib.hid hW0
 have HC := Lib.hid (fun W hh => z65 x g W hh sg)
 have HM := Lib.hid (fun W hh => zg0 x g W hh sg)
 obtain ⟨my, hmy⟩ : ∃ b, b = mayG g := ⟨_, rfl⟩
 rw [← hmy] at HM no hd
 have HNo := Lib.hid no
 have HD := Lib.hid hd
 obtain ⟨T, hT⟩ : ∃ T, T = w.heap.size := ⟨_, rfl⟩
 obtain ⟨Q, hQ⟩ : ∃ Q, Q = w.heap.size + 1 := ⟨_, rfl⟩
 have HTQ : Hid (T = w.heap.size ∧ Q = w.heap.size + 1) := ⟨hT, hQ⟩
 rw [← hQ, ← hT] at A
 clear hW0 hB q0 q2 h sg no hd hmy
 go_enter Tryz.func53, Tryz.ntmps53
 go_upto_region 1 with fail
 rw [← HW.out, ← hQ, ← hT]
 clear hT hQ
 have z := A.out.s.v.z
 go_wp2_with fail
 refine (HC.out _ A.out.s.l).mono ?_
 rintro e w1 ⟨y, rfl, og, gg⟩
 have HO : Hid (OwnG w1 w.heap.size y g) := og.base A.out.s.bw.size
 replace A := Lib.hid (A.out.keep gg)
 clear gg z og HC
 go_upto_region 2 with fail
 obtain ⟨w2, hw2⟩ : ∃ w2, w2 = w1.alloc (.cells (en y) 38) := ⟨_, rfl⟩
 rw [← hw2]
 have gg : Below w1.heap.size w1 w2 := by rw [hw2]; exact below1
 have X6 : Hid (w2.heap[w1.heap.size]? = some (.cells (en y) 38 (0, 0))) := by show _ = _; rw [hw2]; exact heap_alloc_last _ _
 replace A := Lib.hid (A.out.keep gg)
 replace HO := Lib.hid (HO.out.keep gg)
 obtain ⟨T6, hT6⟩ : ∃ n, n = w1.heap.size := ⟨_, rfl⟩
 rw [← hT6] at X6 ⊢
 clear gg hw2 hT6
 have z := A.out.s.v.z
 go_wp2_with fail
 refine (HM.out _ A.out.s.l).mono ?_
 rintro e w3 ⟨rfl, gg⟩
 replace A := Lib.hid (A.out.keep gg)
 replace HO := Lib.hid (HO.out.keep gg)
 replace X6 := Lib.hid (zab gg X6.out)
 clear gg z HM
 have z6 := zag X6.out (zbc y)
 cases my
 ·
  have HH := Lib.hid (HNo.out rfl)
  have wr := A.out.wrR
  have EE := A.out.eb (Nat.le_refl _) HO.out.laid (Below.refl _ _) (fun U hU => ⟨HO.out.far hU, rfl⟩) 1
  have oo := Lib.hid (A.out.outAll y)
  have HE := Lib.hid EE
  clear EE
  go_wp2_with fail
  rw [HH.out.1, HH.out.2]
  exact bodyPost_ret (zbb Tryz.isAgg38 Tryz.sizeOf38 _ 4 5 rfl _ _ _ _ _ rfl rfl oo.out) rfl HE.out
 have HP := Lib.hid (HD.out rfl y w3 A.out.s.bw HO.out)
 clear HD HNo
 go_wp2_with fail
 refine HP.out.mono ?_
 rintro e w4 ⟨v, rfl, ly, gg, fy⟩
 have EE := A.out.eb (Nat.le_refl _) ly gg fy N
 have wr := A.out.ebw fy
 have oo := Lib.hid (A.out.ebo fy)
 have HE := Lib.hid EE
 clear ly gg fy z6 EE HP
 go_wp2_with fail
 exact bodyPost_ret (zbb Tryz.isAgg38 Tryz.sizeOf38 _ 4 5 rfl _ _ _ _ _ rfl rfl oo.out) rfl HE.out
section
open Go.Maps
theorem z2y {w : World} {g : Nat} {x : Bk} (h : w.heap[g]? = some (.cells (bk x) 71 (0, 0))) : ldA w (.pointer (some ⟨g, 0, none⟩)) 32 = some (rc x.root) ∧ ldA w (.pointer (some ⟨g, 32, none⟩)) 32 = some (rc x.parent) ∧ w.cell? ⟨g, 64, none⟩ = some (.int .u64 (x.slot.toNat : Int)) ∧ w.cell? ⟨g, 65, none⟩ = some (.int .u64 (x.just.toNat : Int)) ∧ ldA w (.pointer (some ⟨g, 0, none⟩)) 66 = some (bk x) ∧ g < w.heap.size :=
 ⟨zj0 h, zt6 h, zpa h, zz5 h, zag h (zj1 x), (Array.getElem?_eq_some_iff.1 h).1⟩
theorem zwk (s : SlV) (l : List Nd) (x : Bk) (w : World) (h : SlE Ene w (sv s) l) (hm : ¬ MayT l) :
  Calls Tryz.prog 138 #[.agg (tr ⟨s⟩), .agg (bk x)] w fun e w' => e = .returned (.int .i64 1) ∧ Below w.heap.size w w' := by
 have HM := Lib.hid (fun W (g : Below w.heap.size w W) => ze3 s l W (zad g h))
 rw [decide_eq_false hm] at HM
 obtain ⟨W0, hW0⟩ : ∃ W0, W0 = (w.alloc (.cells (tr ⟨s⟩) 24)).alloc (.cells (bk x) 71) := ⟨_, rfl⟩
 obtain ⟨hB, h0, h1, hz⟩ := zdb w _ _ _ _ W0 hW0
 have HB := Lib.hid hB
 have HW := Lib.hid hW0
 clear h hW0 hB h0 h1 hz hm
 go_enter Tryz.func138, Tryz.ntmps138
 go_wp2_with fail
 rw [← HW.out]
 refine (HM.out W0 HB.out).mono ?_
 rintro e w1 ⟨rfl, g1⟩
 have G1 := Lib.hid (zac HB.out g1)
 clear g1
 go_wp2_with fail
 go_ret
 exact ⟨rfl, G1.out⟩
theorem zsd (b1 o1 n cp : Nat) (l : List Nd) (x : Bk) (w : World) (h : SlE Ene w (.slice (some ⟨b1, o1, none⟩) n cp) l) (hx1 : w.rangeAt b1 o1 (zaq Ene l)) (hl : l.length = n) (hm : MayT l) :
  Calls Tryz.prog 138 #[.agg (tr ⟨⟨some ⟨b1, o1, none⟩, n, cp⟩⟩), .agg (bk x)] w fun e w' => e = .returned (.int .i64 (insE l x.root x.parent x.slot : Int)) ∧ Below w.heap.size w w' := by
 have HM : Hid (∀ W, Below w.heap.size w W → Calls Tryz.prog 47 #[.agg (tr ⟨⟨some ⟨b1, o1, none⟩, n, cp⟩⟩)] W fun e w' => e = .returned (.bool true) ∧ Below W.heap.size W w') := fun W g => by
  have := ze3 ⟨some ⟨b1, o1, none⟩, n, cp⟩ l W (zad g h)
  rwa [decide_eq_true hm] at this
 have HP := Lib.hid (fun W (g : Below w.heap.size w W) => ziz (some ⟨b1, o1, none⟩) n cp l W (zad g h) hl (by have := hm.le; omega))
 have HX1 := Lib.hid hx1
 have HL := Lib.hid hl
 have HMl := Lib.hid hm
 obtain ⟨W0, hW0⟩ : ∃ W0, W0 = (w.alloc (.cells (tr ⟨⟨some ⟨b1, o1, none⟩, n, cp⟩⟩) 24)).alloc (.cells (bk x) 71) := ⟨_, rfl⟩
 obtain ⟨hB, h0, h1, hz⟩ := zdb w _ _ _ _ W0 hW0
 have HB := Lib.hid hB
 have H0 := Lib.hid h0
 have H1 := Lib.hid h1
 have HW := Lib.hid hW0
 obtain ⟨y, hy⟩ : ∃ y, y = insE l x.root x.parent x.slot := ⟨_, rfl⟩
 rw [← hy]
 unfold insE at hy
 rw [if_neg (Classical.not_not.2 hm)] at hy
 have HY := Lib.hid hy
 obtain ⟨c1, hc1⟩ : ∃ c, c = putR l x.root := ⟨_, rfl⟩
 obtain ⟨c2, hc2⟩ : ∃ c, c = putR l x.parent := ⟨_, rfl⟩
 obtain ⟨k1, hk1⟩ : ∃ k, k = decide (0 ≤ zal l x.root) := ⟨_, rfl⟩
 obtain ⟨k2, hk2⟩ : ∃ k, k = decide (0 ≤ zal l x.parent) := ⟨_, rfl⟩
 have hq1 := zvw hm x.root
 have hq2 := zvw hm x.parent
 rw [← hc1, ← hk1, hl] at hq1
 rw [← hc2, ← hk2, hl] at hq2
 have HQ1 := Lib.hid hq1
 have HQ2 := Lib.hid hq2
 have HK1 := Lib.hid hk1
 have HK2 := Lib.hid hk2
 have HC2 := Lib.hid hc2
 clear h hx1 hl hm hW0 hB h0 h1 hz hy hc1 hc2 hk1 hk2 hq1 hq2
 go_enter Tryz.func138, Tryz.ntmps138
 go_wp2_with fail
 rw [← HW.out]
 refine (HM.out W0 HB.out).mono ?_
 rintro e w1 ⟨rfl, g1⟩
 have G1 := Lib.hid (zac HB.out g1)
 have N0 := Lib.hid (zab g1 H0.out)
 have N1 := Lib.hid (zab g1 H1.out)
 obtain ⟨z0, z1, zl⟩ := zaw N0.out
 dsimp only at z0
 rw [za7] at z0
 clear g1
 go_wp2_with fail
 refine (HP.out w1 G1.out).mono ?_
 rintro e w2 ⟨b, rfl, ho, g2⟩
 have G2 := Lib.hid (zac G1.out g2)
 have L1 := z03 ho HQ1.out.1
 have L2 := z03 ho HQ2.out.1
 rw [HQ1.out.2] at L1
 rw [HQ2.out.2] at L2
 clear z0 z1 zl
 obtain ⟨z0, z1, zl⟩ := zaw (zab g2 N0.out)
 dsimp only at z0
 rw [za7] at z0
 obtain ⟨y0, y1, y2, y3, y4, yl⟩ := z2y (zab g2 N1.out)
 clear g2 ho
 cases k1
 ·
  have HK1' : Hid (¬ 0 ≤ zal l x.root) := of_decide_eq_false HK1.out.symm
  cases k2
  ·
   have HK2' : Hid (¬ 0 ≤ zal l x.parent) := of_decide_eq_false HK2.out.symm
   have HR : Hid (y = 5) := by show y = 5; rw [HY.out, if_neg HK1'.out, if_pos (by have := HK2'.out; omega)]
   go_wp2_with fail
   go_ret
   exact ⟨by rw [HR.out]; first | done | rfl, G2.out⟩
  ·
   have hk2' : 0 ≤ zal l x.parent := of_decide_eq_true HK2.out.symm
   obtain ⟨q, hq⟩ : ∃ q : Nat, zal l x.parent = q := ⟨(zal l x.parent).toNat, by omega⟩
   have hqn : q < n := by
    rcases zck HMl.out x.parent with ⟨i, hi, e, _⟩ | ⟨e, _⟩
    ·
     have := HL.out; omega
    ·
     omega
   have hc : c2 = (q : Int) := by rw [HC2.out]; unfold putR; rw [if_pos hk2', hq]
   subst hc
   have HR0 : Hid (y = if x.slot.toNat ≤ sl l q ∨ 1099511627776 < x.slot.toNat then 6 else if n = 12 then 3 else 0) := by
    show y = _
    rw [HY.out, if_neg HK1'.out, if_neg (by omega), hq, Int.toNat_natCast, HL.out]
   have v0 := zgh (zfu G2.out HX1.out) (i := q) (by have := HL.out; omega)
   have i1 : (q : Int) < (n : Int) := by omega
   have i0 : (0 : Int) ≤ (q : Int) := by omega
   clear hk2' hq hqn
   by_cases h1 : x.slot.toNat ≤ sl l q
   ·
    have t1 : decide (x.slot.toNat ≤ (nd l q).slot.toNat) = true := decide_eq_true h1
    have t1' : decide ((x.slot.toNat : Int) ≤ ((nd l q).slot.toNat : Int)) = true := by rw [decide_eq_true_iff]; unfold sl at h1; omega
    have HR : Hid (y = 6) := by show y = 6; rw [HR0.out, if_pos (.inl h1)]
    clear h1
    go_wp2_with fail
    go_quiet (fail)
    go_wp2_with fail
    go_ret
    exact ⟨by rw [HR.out]; first | done | rfl, zak G2.out _⟩
   ·
    have t1 : decide (x.slot.toNat ≤ (nd l q).slot.toNat) = false := decide_eq_false h1
    have t1' : decide ((x.slot.toNat : Int) ≤ ((nd l q).slot.toNat : Int)) = false := by rw [decide_eq_false_iff_not]; unfold sl at h1; omega
    by_cases h2 : 1099511627776 < x.slot.toNat
    ·
     have t2 : decide (1099511627776 < x.slot.toNat) = true := decide_eq_true h2
     have t2' : decide ((1099511627776 : Int) < (x.slot.toNat : Int)) = true := by rw [decide_eq_true_iff]; omega
     have HR : Hid (y = 6) := by show y = 6; rw [HR0.out, if_pos (.inr h2)]
     clear h1 h2
     go_wp2_with fail
     go_quiet (fail)
     go_wp2_with fail
     go_ret
     exact ⟨by rw [HR.out]; first | done | rfl, zak G2.out _⟩
    ·
     have t2 : decide (1099511627776 < x.slot.toNat) = false := decide_eq_false h2
     have t2' : decide ((1099511627776 : Int) < (x.slot.toNat : Int)) = false := by rw [decide_eq_false_iff_not]; omega
     have HR1 : Hid (y = if n = 12 then 3 else 0) := by show y = _; rw [HR0.out, if_neg (by omega)]
     clear h1 h2
     by_cases h3 : n = 12
     ·
      subst h3
      have HR : Hid (y = 3) := HR1.out
      go_wp2_with fail
      go_quiet (fail)
      go_wp2_with fail
      go_ret
      exact ⟨by rw [HR.out]; first | done | rfl, zak G2.out _⟩
     ·
      have t3 : ((n : Int) == 12) = false := by simp; omega
      have t3' : decide (n = 12) = false := decide_eq_false h3
      have HR : Hid (y = 0) := by show y = 0; rw [HR1.out, if_neg h3]
      clear h3
      go_wp2_with fail
      go_quiet (fail)
      go_wp2_with fail
      go_ret
      exact ⟨by rw [HR.out]; first | done | rfl, zak G2.out _⟩
 ·
  have HK1' := Lib.hid (of_decide_eq_true HK1.out.symm)
  have HR : Hid (y = 4) := by show y = 4; rw [HY.out, if_pos HK1'.out]
  go_wp2_with fail
  go_ret
  exact ⟨by rw [HR.out]; first | done | rfl, G2.out⟩
theorem ztx (s : SlV) (l : List Nd) (x : Bk) (w : World) (h : SlE Ene w (sv s) l) :
  Calls Tryz.prog 138 #[.agg (tr ⟨s⟩), .agg (bk x)] w fun e w' => e = .returned (.int .i64 (insE l x.root x.parent x.slot : Int)) ∧ Below w.heap.size w w' := by
 by_cases hm : MayT l
 ·
  have hl := zcn h
  obtain ⟨p, n, cp⟩ := s
  obtain ⟨b1, o1, rfl, q1, x1⟩ := zda h hm.pos
  exact zsd b1 o1 n cp l x w h x1 hl hm
 ·
  have e : insE l x.root x.parent x.slot = 1 := by unfold insE; rw [if_pos hm]
  rw [e]
  exact zwk s l x w h hm
end
def zt0 (L : List Nd) (w : World) (e : Ending) (w' : World) : Prop := ∃ s : SlV, e = .returned (.agg (tr ⟨s⟩)) ∧ OwnE Ene w' w.heap.size (sv s) L ∧ Below w.heap.size w w'
def zzz (L : List Nd) (n : Nat) (w : World) (e : Ending) (w' : World) : Prop := ∃ s : SlV, e = .returned (.tuple #[.agg (tr ⟨s⟩), .int .i64 (n : Int)]) ∧ SlE Ene w' (sv s) L ∧ (∀ b, (sv s).ownBlock = some b → w.heap.size ≤ b) ∧ Below w.heap.size w w'
theorem zwh (p : Option Addr) (n cp : Nat) (l : List Nd) (x : Bk) (w : World) (h : SlE Ene w (.slice p n cp) l) (hl : l.length = n) (hn : n * 56 ≤ 140737488355328) (hy : insE l x.root x.parent x.slot ≠ 0) :
  Calls Tryz.prog 99 #[.agg (tr ⟨⟨p, n, cp⟩⟩), .agg (bk x)] w (zzz l (insE l x.root x.parent x.slot) w) := by
 have HC := Lib.hid (fun W (g : Below w.heap.size w W) => zua ⟨p, n, cp⟩ l W (zad g h) (by rw [hl]; exact hn))
 have HR := Lib.hid (fun W (g : Below w.heap.size w W) => ztx ⟨p, n, cp⟩ l x W (zad g h))
 obtain ⟨y, hyy⟩ : ∃ y, y = insE l x.root x.parent x.slot := ⟨_, rfl⟩
 rw [← hyy] at HR hy ⊢
 have HL := Lib.hid hl
 obtain ⟨W0, hW0⟩ : ∃ W0, W0 = ((w.alloc (.cells (tr ⟨⟨p, n, cp⟩⟩) 24)).alloc (.cells (bk x) 71)).alloc (.cells (tr ztr) 24) := ⟨_, rfl⟩
 obtain ⟨hB, h0, h1, h2, hz⟩ := zft w _ _ _ _ _ _ W0 hW0
 have HB := Lib.hid hB
 have H0 := Lib.hid h0
 have H1 := Lib.hid h1
 have H2 := Lib.hid h2
 have HZ := Lib.hid hz
 have HW := Lib.hid hW0
 have t1 : ((y : Int) != 0) = true := by simp; omega
 clear h hl hn hyy hW0 hB h0 h1 h2 hz hy
 go_enter Tryz.func99, Tryz.ntmps99
 go_wp2_with fail
 rw [← HW.out]
 refine (HC.out W0 HB.out).mono ?_
 rintro e w1 ⟨v, rfl, o1, g1⟩
 obtain ⟨p1, c1, rfl⟩ := zdg o1 HL.out
 obtain ⟨W2, hW2⟩ : ∃ W2, W2 = w1.alloc (.cells (tr ⟨⟨p1, n, c1⟩⟩) 24) := ⟨_, rfl⟩
 have g2 : Below W0.heap.size W0 W2 := by rw [hW2]; exact zac g1 below1
 have HM2 : Hid (W2.heap[w1.heap.size]? = some (.cells (tr ⟨⟨p1, n, c1⟩⟩) 24 (0, 0))) := by rw [hW2]; exact heap_alloc_last w1 _
 have G2 := Lib.hid g2
 have HO2 : Hid (OwnE Ene W2 W0.heap.size (.slice p1 n c1) l) := by rw [hW2]; exact zba o1 _
 have HW2 := Lib.hid hW2
 have z1 := zag (zab g1 H0.out) (za9 _)
 have z2 := zag (zab g1 H1.out) (zj1 _)
 have z3 : w.heap.size < w1.heap.size := (Array.getElem?_eq_some_iff.1 (zab g1 H0.out)).1
 have z4 : w.heap.size + 1 < w1.heap.size := (Array.getElem?_eq_some_iff.1 (zab g1 H1.out)).1
 clear o1 g2 hW2 g1
 go_wp2_with fail
 rw [← HW2.out]
 refine (HR.out W2 (zac HB.out G2.out)).mono ?_
 rintro e w3 ⟨rfl, g3⟩
 have G3 := Lib.hid (zac G2.out g3)
 have HO3 := Lib.hid (zam g3 HO2.out)
 have M3 := zab g3 HM2.out
 have N3 := Lib.hid (zab (zac G2.out g3) H2.out)
 have y1 := zag M3 (za9 _)
 have y2 := za0 N3.out (za9 _)
 clear z1 z2 z3 z4 g3 M3
 go_wp2_with fail
 exact bodyPost_ret (zbb Tryz.isAgg24 Tryz.sizeOf24 _ 4 5 rfl _ _ _ _ _ rfl rfl (zbh N3.out (za9 _) (za9 _))) rfl ⟨⟨p1, n, c1⟩, rfl, z4l (zat HO3.out) (fun e => by have := (zbi HO3.out e).1; have := HZ.out; omega), (fun b hb => by have := (zbi HO3.out hb).1; have := HZ.out; omega), zap (zac HB.out G3.out) (by omega)⟩
theorem zsc (p : Option Addr) (n cp : Nat) (l : List Nd) (x : Bk) (w : World) (h : SlE Ene w (.slice p n cp) l) (hl : l.length = n) (hy : insE l x.root x.parent x.slot = 0) :
  Calls Tryz.prog 99 #[.agg (tr ⟨⟨p, n, cp⟩⟩), .agg (bk x)] w (zzz (l ++ [insN l x.root x.parent x.slot x.just]) 0 w) := by
 have hn12 := (zp4 hy).2.2.2.2
 have HN : Hid (n ≤ 12) := by show n ≤ 12; omega
 have HC := Lib.hid (fun W (g : Below w.heap.size w W) => zua ⟨p, n, cp⟩ l W (zad g h) (by omega))
 have HR := Lib.hid (fun W (g : Below w.heap.size w W) => ztx ⟨p, n, cp⟩ l x W (zad g h))
 rw [hy] at HR
 have HF := Lib.hid (fun W (g : Below w.heap.size w W) => zdh ⟨p, n, cp⟩ l x.parent W (zad g h))
 obtain ⟨q, hq⟩ : ∃ q, q = zal l x.parent := ⟨_, rfl⟩
 obtain ⟨m, hm⟩ : ∃ m, m = insN l x.root x.parent x.slot x.just := ⟨_, rfl⟩
 have HMN : Hid (m = ⟨x.root, q, x.slot, x.just⟩) := by show m = _; rw [hm, hq]; rfl
 rw [← hm]
 rw [← hq] at HF
 have HL := Lib.hid hl
 obtain ⟨W0, hW0⟩ : ∃ W0, W0 = ((w.alloc (.cells (tr ⟨⟨p, n, cp⟩⟩) 24)).alloc (.cells (bk x) 71)).alloc (.cells (tr ztr) 24) := ⟨_, rfl⟩
 obtain ⟨hB, h0, h1, h2, hz⟩ := zft w _ _ _ _ _ _ W0 hW0
 have HB := Lib.hid hB
 have H0 := Lib.hid h0
 have H1 := Lib.hid h1
 have H2 := Lib.hid h2
 have HZ := Lib.hid hz
 have HW := Lib.hid hW0
 clear h hl hn12 hW0 hB h0 h1 h2 hz hy hq hm
 go_enter Tryz.func99, Tryz.ntmps99
 go_wp2_with fail
 rw [← HW.out]
 refine (HC.out W0 HB.out).mono ?_
 rintro e w1 ⟨v, rfl, o1, g1⟩
 obtain ⟨p1, c1, rfl⟩ := zdg o1 HL.out
 obtain ⟨W2, hW2⟩ : ∃ W2, W2 = w1.alloc (.cells (tr ⟨⟨p1, n, c1⟩⟩) 24) := ⟨_, rfl⟩
 have g2 : Below W0.heap.size W0 W2 := by rw [hW2]; exact zac g1 below1
 have HM2 : Hid (W2.heap[w1.heap.size]? = some (.cells (tr ⟨⟨p1, n, c1⟩⟩) 24 (0, 0))) := by rw [hW2]; exact heap_alloc_last w1 _
 have G2 := Lib.hid g2
 have HO1 : Hid (OwnE Ene W2 W0.heap.size (.slice p1 n c1) l) := by rw [hW2]; exact zba o1 _
 have HO1b : Hid ((Value.slice p1 n c1).ownBlock ≠ some w1.heap.size) := ynb o1 (Nat.le_refl _)
 have HW2 := Lib.hid hW2
 have z1 := zag (zab g1 H0.out) (za9 _)
 have z2 := zag (zab g1 H1.out) (zj1 _)
 have z3 : w.heap.size < w1.heap.size := (Array.getElem?_eq_some_iff.1 (zab g1 H0.out)).1
 have z4 : w.heap.size + 1 < w1.heap.size := (Array.getElem?_eq_some_iff.1 (zab g1 H1.out)).1
 have HZ4 : Hid (w.heap.size + 3 ≤ w1.heap.size) := by show _ ≤ _; have := g1.size; have := HZ.out; omega
 clear o1 g2 hW2 g1
 go_wp2_with fail
 rw [← HW2.out]
 refine (HR.out W2 (zac HB.out G2.out)).mono ?_
 rintro e w3 ⟨rfl, g3⟩
 have G3 := Lib.hid (zac G2.out g3)
 have B3 := Lib.hid (zac HB.out (zac G2.out g3))
 have HO3 := Lib.hid (zam g3 HO1.out)
 have M3 := Lib.hid (zab g3 HM2.out)
 have N3 := Lib.hid (zab (zac G2.out g3) H2.out)
 have K0 := Lib.hid (zab (zac G2.out g3) H0.out)
 have K1 := Lib.hid (zab (zac G2.out g3) H1.out)
 clear z1 z2 z3 z4 g3
 go_wp2_with fail
 have hwB : w.heap.size + 2 ≤ w3.heap.size := by have := G3.out.size; have := HZ.out; omega
 have Q0 := zay (zaw M3.out).1
 dsimp only at Q0
 rw [za7] at Q0
 have Q1 := zzo (B := w.heap.size + 2) (zaw K0.out).2.1 (by omega)
 obtain ⟨k0, k1, k2, k3, _, _⟩ := z2y K1.out
 have Q2 := zzo (B := w.heap.size + 2) k0 (by omega)
 have Q3 := zzo (B := w.heap.size + 2) k1 (by omega)
 have Q4 := zo0 (B := w.heap.size + 2) k2 (by omega)
 have Q5 := zo0 (B := w.heap.size + 2) k3 (by omega)
 clear k0 k1 k2 k3
 refine zeu (w.heap.size + 2) [1] [7, 12, 13, 14, 16] (by kernel_rfl) (by kernel_rfl) (by kernel_rfl) ?_
 refine zcf rfl rfl rfl hwB ?_
 (first | go_big_quiet_step (fail) | quiet_step (fail)); refine wpQuiet_nil ?_
 refine zem rfl rfl rfl hwB ?_
 (first | go_big_quiet_step (fail) | quiet_step (fail)); refine wpQuiet_nil ?_
 repeat (refine zcf rfl rfl rfl hwB ?_; (first | go_big_quiet_step (fail) | quiet_step (fail)); refine wpQuiet_nil ?_)
 refine zi0 rfl rfl rfl zuq #[.agg (tr ⟨⟨p, n, cp⟩⟩), .agg (rc x.parent)] rfl ?_
 refine (HF.out w3.drew (zac B3.out (zak (Below.refl _ _) 1))).mono ?_
 rintro e u ⟨rfl, gu⟩
 refine ⟨_, rfl, gu, ?_⟩
 simp only [Act.put, List.setIfInBounds_toArray, List.set_cons_zero, List.set_cons_succ]
 have GU : Hid (Below w3.heap.size w3 u) := zac (zak (Below.refl _ _) 1) gu
 clear gu
 repeat (refine zcf rfl rfl rfl hwB ?_; (first | go_big_quiet_step (fail) | quiet_step (fail)); refine wpQuiet_nil ?_)
 refine zws rfl rfl (.agg (ne m)) u (by rw [HMN.out]; go_simp) (zdk (Below.refl _ _)) ?_
 simp only [Act.put, List.setIfInBounds_toArray, List.set_cons_zero, List.set_cons_succ]
 refine zws rfl rfl (.slice (some ⟨u.heap.size, 0, none⟩) 1 1) (u.alloc (.cells (ne m) 63)) (by go_simp) (zdk below1) ?_
 simp only [Act.put, List.setIfInBounds_toArray, List.set_cons_zero, List.set_cons_succ]
 refine z2f KneB rfl rfl (by kernel_rfl) (.tmp 20) (.tmp 32) rfl W0.heap.size _ l rfl (zam (zac GU.out below1) HO3.out) _ [m] rfl (zej _ [m] 1 _ _ _ rfl rfl (by simp [zaq, Ene, zm2])) (by have := HL.out; have := HN.out; simp [maxLen]; omega) (by have := HL.out; have := HN.out; simp; omega) (by have := G3.out.size; have := GU.out.size; simp; omega) (by have := HZ.out; omega) ?_
 intro v5 w5 o5 g5
 simp only [Act.put, List.setIfInBounds_toArray, List.set_cons_zero, List.set_cons_succ]
 have D5 : Below W0.heap.size (u.alloc (.cells (ne m) 63)) w5 := g5.own (zam (zac GU.out below1) HO3.out) (by have := G3.out.size; have := GU.out.size; simp; omega)
 have B5 : Hid (Below w.heap.size w w5) := (zac B3.out (zac GU.out below1)).trans (D5.mono HB.out.size)
 have M5 := g5.heap (zab (zac GU.out below1) M3.out) HO1b.out
 have N5 : Hid (w5.heap[w.heap.size + 2]? = some (.cells (tr ztr) 24 (0, 0))) := (D5.block _ (by have := HZ.out; omega)).trans (zab (zac GU.out below1) N3.out)
 obtain ⟨p5, c5, rfl⟩ := zdg o5 (n := n + 1) (by rw [List.length_append, HL.out]; rfl)
 have O5 := Lib.hid o5
 have HNE5 : Hid ((Value.slice p5 (n + 1) c5).ownBlock ≠ some w1.heap.size) := by
  intro e
  rcases g5.2 with h | h
  ·
   rw [h] at e; exact HO1b.out e
  ·
   have k1 := h _ e
   have k2 := (Array.getElem?_eq_some_iff.1 M3.out).1
   have k3 := GU.out.size
   have k4 := (below1 (w := u) (o := .cells (ne m) 63)).size
   omega
 have c0 : w5.cell? ⟨w1.heap.size, 0, none⟩ = some (.slice p1 n c1) ∧ w5.frozen? ⟨w1.heap.size, 0, none⟩ = false := ⟨by have := (zaw M5).1; dsimp only at this; rw [za7] at this; exact this, frozen_of_row _ _ _ _ _ M5⟩
 obtain ⟨c0, c1'⟩ := c0
 obtain ⟨W6, hW6⟩ : ∃ W6, W6 = w5.setCell ⟨w1.heap.size, 0, none⟩ (.slice p5 (n + 1) c5) := ⟨_, rfl⟩
 have M6 : Hid (W6.heap[w1.heap.size]? = some (.cells (tr ⟨⟨p5, n + 1, c5⟩⟩) 24 (0, 0))) := by
  have := za4 M5 0 (.slice p5 (n + 1) c5)
  rw [hW6]
  rwa [ydn] at this
 have N6 : Hid (W6.heap[w.heap.size + 2]? = some (.cells (tr ztr) 24 (0, 0))) := by
  rw [hW6, Below.heap_setCell _ _ _ _ (show w.heap.size + 2 ≠ w1.heap.size by have := HZ4.out; omega)]; exact N5.out
 have B6 : Hid (Below w.heap.size w W6) := by rw [hW6]; exact B5.out.setCell (p := ⟨w1.heap.size, 0, none⟩) (by have := HZ4.out; show w.heap.size ≤ w1.heap.size; omega) _
 have S6 : Hid (SlE Ene W6 (.slice p5 (n + 1) c5) (l ++ [m])) := by rw [hW6]; exact yh6 (zat O5.out) HNE5.out
 have HF6 : Hid (∀ b, (Value.slice p5 (n + 1) c5).ownBlock = some b → w.heap.size + 3 ≤ b) := fun b hb => by have := (zbi O5.out hb).1; have := HZ.out; omega
 have HW6 := Lib.hid hW6
 clear hW6 o5 g5 M5
 refine zcf rfl rfl rfl hwB ?_
 (first | go_big_quiet_step (fail) | quiet_step (fail)); refine wpQuiet_nil ?_
 refine zjl rfl rfl W6 (by rw [HW6.out]; go_simp) (zd5 (by kernel_rfl) (by rw [HW6.out]; exact (Below.refl _ _).setCell (p := ⟨w1.heap.size, 0, none⟩) (by have := HZ4.out; show w.heap.size + 2 ≤ w1.heap.size; omega) _)) ?_
 simp only [Act.put]
 refine zo2 ?_
 have f0 := zag M6.out (za9 _)
 have f1 := za0 N6.out (za9 _)
 clear c0 c1' D5 Q0 Q1 Q2 Q3 Q4 Q5 hwB
 go_wp2_with fail
 exact bodyPost_ret (zbb Tryz.isAgg24 Tryz.sizeOf24 _ 4 5 rfl _ _ _ _ _ rfl rfl (zbh N6.out (za9 _) (za9 _))) rfl ⟨⟨p5, n + 1, c5⟩, rfl, z4l S6.out (fun e => by have := HF6.out _ e; omega), (fun b hb => by have := HF6.out b hb; omega), zap B6.out (by omega)⟩
theorem z19 (s : SlV) (l : List Nd) (x : Bk) (w : World) (h : SlE Ene w (sv s) l) (hn : l.length * 56 ≤ 140737488355328) :
  Calls Tryz.prog 99 #[.agg (tr ⟨s⟩), .agg (bk x)] w (zzz (insL l x.root x.parent x.slot x.just) (insE l x.root x.parent x.slot) w) := by
 have hl := zcn h
 obtain ⟨p, n, cp⟩ := s
 dsimp only at hl
 unfold insL
 by_cases hy : insE l x.root x.parent x.slot = 0
 ·
  rw [if_pos hy, hy]
  exact zsc p n cp l x w h hl hy
 ·
  rw [if_neg hy]
  exact zwh p n cp l x w h hl (by omega) hy
end Go.Proofs.YtkalofboioffiaaGreat
