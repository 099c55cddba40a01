import Derived.Test.YtmihlihlpdkdcaaGreatK31
import Derived.Test.YtmihlihlpdkdcaaGreatK20
import Derived.Test.YtmihlihlpdkdcaaGreatK13
import Derived.Test.YtmihlihlpdkdcaaGreatK17
import Derived.Test.YtmihlihlpdkdcaaGreatQ09
import Derived.Test.YtmihlihlpdkdcaaGreatK14
import Derived.Test.YtmihlihlpdkdcaaGreatK11
import Derived.Deep.Cut
import Derived.Deep.CutRange
import Derived.Deep.RegionLaw
import Derived.Laws.Cover3
namespace Go.Proofs.YtmihlihlpdkdcaaGreat
open Go.RowKit
set_option maxRecDepth 200000
set_option maxHeartbeats 64000000
section
open Go.Maps
theorem z7w {w : World} {g : Nat} {x : Bk} (h : w.heap[g]? = some (.cells (bk x) 69 (0, 0))) : ldA w (.pointer (some ⟨g, 0, none⟩)) 32 = some (rc x.root) ∧ ldA w (.pointer (some ⟨g, 32, none⟩)) 32 = some (rc x.parent) ∧ w.cell? ⟨g, 64, none⟩ = some (.int .u64 (x.slot.toNat : Int)) ∧ w.cell? ⟨g, 65, none⟩ = some (.int .u64 (x.just.toNat : Int)) ∧ ldA w (.pointer (some ⟨g, 0, none⟩)) 66 = some (bk x) ∧ g < w.heap.size :=
 ⟨zsy h, zx5 h, zl8 h, z4f h, zaf h (zhr x), (Array.getElem?_eq_some_iff.1 h).1⟩
theorem zwq (s : SlV) (l : List Nd) (x : Bk) (w : World) (h : SlE Ene w (sv s) l) (hm : ¬ MayT l) :
  Calls Tryz.prog 128 #[.agg (tr ⟨s⟩), .agg (bk x)] w fun e w' => e = .returned (.int .i64 1) ∧ Below w.heap.size w w' := by
 have HM := Lib.hid (fun W (g : Below w.heap.size w W) => ziy s l W (zac g h))
 rw [decide_eq_false hm] at HM
 obtain ⟨W0, hW0⟩ : ∃ W0, W0 = (w.alloc (.cells (tr ⟨s⟩) 28)).alloc (.cells (bk x) 69) := ⟨_, rfl⟩
 obtain ⟨hB, h0, h1, hz⟩ := zd0 w _ _ _ _ W0 hW0
 have HB := Lib.hid hB
 have HW := Lib.hid hW0
 clear h hW0 hB h0 h1 hz hm
 go_enter Tryz.func128, Tryz.ntmps128
 go_wp2_with fail
 rw [← HW.out]
 refine (HM.out W0 HB.out).mono ?_
 rintro e w1 ⟨rfl, g1⟩
 have G1 := Lib.hid (zad HB.out g1)
 clear g1
 go_wp2_with fail
 go_ret
 exact ⟨rfl, G1.out⟩
theorem zuj (b1 o1 n cp : Nat) (l : List Nd) (x : Bk) (w : World) (h : SlE Ene w (.slice (some ⟨b1, o1, none⟩) n cp) l) (hx1 : w.rangeAt b1 o1 (zan Ene l)) (hl : l.length = n) (hm : MayT l) :
  Calls Tryz.prog 128 #[.agg (tr ⟨⟨some ⟨b1, o1, none⟩, n, cp⟩⟩), .agg (bk x)] w fun e w' => e = .returned (.int .i64 (insE l x.root x.parent x.slot : Int)) ∧ Below w.heap.size w w' := by
 have HM : Hid (∀ W, Below w.heap.size w W → Calls Tryz.prog 48 #[.agg (tr ⟨⟨some ⟨b1, o1, none⟩, n, cp⟩⟩)] W fun e w' => e = .returned (.bool true) ∧ Below W.heap.size W w') := fun W g => by
  have := ziy ⟨some ⟨b1, o1, none⟩, n, cp⟩ l W (zac g h)
  rwa [decide_eq_true hm] at this
 have HP := Lib.hid (fun W (g : Below w.heap.size w W) => zjt (some ⟨b1, o1, none⟩) n cp l W (zac g h) hl (by have := hm.le; omega))
 have HX1 := Lib.hid hx1
 have HL := Lib.hid hl
 have HMl := Lib.hid hm
 obtain ⟨W0, hW0⟩ : ∃ W0, W0 = (w.alloc (.cells (tr ⟨⟨some ⟨b1, o1, none⟩, n, cp⟩⟩) 28)).alloc (.cells (bk x) 69) := ⟨_, rfl⟩
 obtain ⟨hB, h0, h1, hz⟩ := zd0 w _ _ _ _ W0 hW0
 have HB := Lib.hid hB
 have H0 := Lib.hid h0
 have H1 := Lib.hid h1
 have HW := Lib.hid hW0
 obtain ⟨y, hy⟩ : ∃ y, y = insE l x.root x.parent x.slot := ⟨_, rfl⟩
 rw [← hy]
 unfold insE at hy
 rw [if_neg (Classical.not_not.2 hm)] at hy
 have HY := Lib.hid hy
 obtain ⟨c1, hc1⟩ : ∃ c, c = putR l x.root := ⟨_, rfl⟩
 obtain ⟨c2, hc2⟩ : ∃ c, c = putR l x.parent := ⟨_, rfl⟩
 obtain ⟨k1, hk1⟩ : ∃ k, k = decide (0 ≤ zay l x.root) := ⟨_, rfl⟩
 obtain ⟨k2, hk2⟩ : ∃ k, k = decide (0 ≤ zay l x.parent) := ⟨_, rfl⟩
 have hq1 := zw7 hm x.root
 have hq2 := zw7 hm x.parent
 rw [← hc1, ← hk1, hl] at hq1
 rw [← hc2, ← hk2, hl] at hq2
 have HQ1 := Lib.hid hq1
 have HQ2 := Lib.hid hq2
 have HK1 := Lib.hid hk1
 have HK2 := Lib.hid hk2
 have HC2 := Lib.hid hc2
 clear h hx1 hl hm hW0 hB h0 h1 hz hy hc1 hc2 hk1 hk2 hq1 hq2
 go_enter Tryz.func128, Tryz.ntmps128
 go_wp2_with fail
 rw [← HW.out]
 refine (HM.out W0 HB.out).mono ?_
 rintro e w1 ⟨rfl, g1⟩
 have G1 := Lib.hid (zad HB.out g1)
 have N0 := Lib.hid (zab g1 H0.out)
 have N1 := Lib.hid (zab g1 H1.out)
 obtain ⟨z0, z1, zl⟩ := za2 N0.out
 dsimp only at z0
 rw [zat] at z0
 clear g1
 go_wp2_with fail
 refine (HP.out w1 G1.out).mono ?_
 rintro e w2 ⟨b, rfl, ho, g2⟩
 have G2 := Lib.hid (zad G1.out g2)
 have L1 := z5i ho HQ1.out.1
 have L2 := z5i ho HQ2.out.1
 rw [HQ1.out.2] at L1
 rw [HQ2.out.2] at L2
 clear z0 z1 zl
 obtain ⟨z0, z1, zl⟩ := za2 (zab g2 N0.out)
 dsimp only at z0
 rw [zat] at z0
 obtain ⟨y0, y1, y2, y3, y4, yl⟩ := z7w (zab g2 N1.out)
 clear g2 ho
 cases k1
 ·
  have HK1' : Hid (¬ 0 ≤ zay l x.root) := of_decide_eq_false HK1.out.symm
  cases k2
  ·
   have HK2' : Hid (¬ 0 ≤ zay l x.parent) := of_decide_eq_false HK2.out.symm
   have HR : Hid (y = 5) := by show y = 5; rw [HY.out, if_neg HK1'.out, if_pos (by have := HK2'.out; omega)]
   go_wp2_with fail
   go_ret
   exact ⟨by rw [HR.out]; first | done | rfl, G2.out⟩
  ·
   have hk2' : 0 ≤ zay l x.parent := of_decide_eq_true HK2.out.symm
   obtain ⟨q, hq⟩ : ∃ q : Nat, zay l x.parent = q := ⟨(zay l x.parent).toNat, by omega⟩
   have hqn : q < n := by
    rcases ze3 HMl.out x.parent with ⟨i, hi, e, _⟩ | ⟨e, _⟩
    ·
     have := HL.out; omega
    ·
     omega
   have hc : c2 = (q : Int) := by rw [HC2.out]; unfold putR; rw [if_pos hk2', hq]
   subst hc
   have HR0 : Hid (y = if x.slot.toNat ≤ sl l q ∨ 1099511627776 < x.slot.toNat then 6 else if n = 12 then 3 else 0) := by
    show y = _
    rw [HY.out, if_neg HK1'.out, if_neg (by omega), hq, Int.toNat_natCast, HL.out]
   have v0 := zk3 (zhd G2.out HX1.out) (i := q) (by have := HL.out; omega)
   have i1 : (q : Int) < (n : Int) := by omega
   have i0 : (0 : Int) ≤ (q : Int) := by omega
   clear hk2' hq hqn
   by_cases h1 : x.slot.toNat ≤ sl l q
   ·
    have t1 : decide (x.slot.toNat ≤ (nd l q).slot.toNat) = true := decide_eq_true h1
    have t1' : decide ((x.slot.toNat : Int) ≤ ((nd l q).slot.toNat : Int)) = true := by rw [decide_eq_true_iff]; unfold sl at h1; omega
    have HR : Hid (y = 6) := by show y = 6; rw [HR0.out, if_pos (.inl h1)]
    clear h1
    go_wp2_with fail
    go_quiet (fail)
    go_wp2_with fail
    go_ret
    exact ⟨by rw [HR.out]; first | done | rfl, zap G2.out _⟩
   ·
    have t1 : decide (x.slot.toNat ≤ (nd l q).slot.toNat) = false := decide_eq_false h1
    have t1' : decide ((x.slot.toNat : Int) ≤ ((nd l q).slot.toNat : Int)) = false := by rw [decide_eq_false_iff_not]; unfold sl at h1; omega
    by_cases h2 : 1099511627776 < x.slot.toNat
    ·
     have t2 : decide (1099511627776 < x.slot.toNat) = true := decide_eq_true h2
     have t2' : decide ((1099511627776 : Int) < (x.slot.toNat : Int)) = true := by rw [decide_eq_true_iff]; omega
     have HR : Hid (y = 6) := by show y = 6; rw [HR0.out, if_pos (.inr h2)]
     clear h1 h2
     go_wp2_with fail
     go_quiet (fail)
     go_wp2_with fail
     go_ret
     exact ⟨by rw [HR.out]; first | done | rfl, zap G2.out _⟩
    ·
     have t2 : decide (1099511627776 < x.slot.toNat) = false := decide_eq_false h2
     have t2' : decide ((1099511627776 : Int) < (x.slot.toNat : Int)) = false := by rw [decide_eq_false_iff_not]; omega
     have HR1 : Hid (y = if n = 12 then 3 else 0) := by show y = _; rw [HR0.out, if_neg (by omega)]
     clear h1 h2
     by_cases h3 : n = 12
     ·
      subst h3
      have HR : Hid (y = 3) := HR1.out
      go_wp2_with fail
      go_quiet (fail)
      go_wp2_with fail
      go_ret
      exact ⟨by rw [HR.out]; first | done | rfl, zap G2.out _⟩
     ·
      have t3 : ((n : Int) == 12) = false := by simp; omega
      have t3' : decide (n = 12) = false := decide_eq_false h3
      have HR : Hid (y = 0) := by show y = 0; rw [HR1.out, if_neg h3]
      clear h3
      go_wp2_with fail
      go_quiet (fail)
      go_wp2_with fail
      go_ret
      exact ⟨by rw [HR.out]; first | done | rfl, zap G2.out _⟩
 ·
  have HK1' := Lib.hid (of_decide_eq_true HK1.out.symm)
  have HR : Hid (y = 4) := by show y = 4; rw [HY.out, if_pos HK1'.out]
  go_wp2_with fail
  go_ret
  exact ⟨by rw [HR.out]; first | done | rfl, G2.out⟩
theorem zvr (s : SlV) (l : List Nd) (x : Bk) (w : World) (h : SlE Ene w (sv s) l) :
  Calls Tryz.prog 128 #[.agg (tr ⟨s⟩), .agg (bk x)] w fun e w' => e = .returned (.int .i64 (insE l x.root x.parent x.slot : Int)) ∧ Below w.heap.size w w' := by
 by_cases hm : MayT l
 ·
  have hl := zdm h
  obtain ⟨p, n, cp⟩ := s
  obtain ⟨b1, o1, rfl, q1, x1⟩ := zf4 h hm.pos
  exact zuj b1 o1 n cp l x w h x1 hl hm
 ·
  have e : insE l x.root x.parent x.slot = 1 := by unfold insE; rw [if_pos hm]
  rw [e]
  exact zwq s l x w h hm
end
def zxq (L : List Nd) (w : World) (e : Ending) (w' : World) : Prop := ∃ s : SlV, e = .returned (.agg (tr ⟨s⟩)) ∧ OwnE Ene w' w.heap.size (sv s) L ∧ Below w.heap.size w w'
def z5c (L : List Nd) (n : Nat) (w : World) (e : Ending) (w' : World) : Prop := ∃ s : SlV, e = .returned (.tuple #[.agg (tr ⟨s⟩), .int .i64 (n : Int)]) ∧ SlE Ene w' (sv s) L ∧ (∀ b, (sv s).ownBlock = some b → w.heap.size ≤ b) ∧ Below w.heap.size w w'
theorem zw8 (p : Option Addr) (n cp : Nat) (l : List Nd) (x : Bk) (w : World) (h : SlE Ene w (.slice p n cp) l) (hl : l.length = n) (hn : n * 56 ≤ 140737488355328) (hy : insE l x.root x.parent x.slot ≠ 0) :
  Calls Tryz.prog 98 #[.agg (tr ⟨⟨p, n, cp⟩⟩), .agg (bk x)] w (z5c l (insE l x.root x.parent x.slot) w) := by
 have HC := Lib.hid (fun W (g : Below w.heap.size w W) => z44 ⟨p, n, cp⟩ l W (zac g h) (by rw [hl]; exact hn))
 have HR := Lib.hid (fun W (g : Below w.heap.size w W) => zvr ⟨p, n, cp⟩ l x W (zac g h))
 obtain ⟨y, hyy⟩ : ∃ y, y = insE l x.root x.parent x.slot := ⟨_, rfl⟩
 rw [← hyy] at HR hy ⊢
 have HL := Lib.hid hl
 obtain ⟨W0, hW0⟩ : ∃ W0, W0 = ((w.alloc (.cells (tr ⟨⟨p, n, cp⟩⟩) 28)).alloc (.cells (bk x) 69)).alloc (.cells (tr ztr) 28) := ⟨_, rfl⟩
 obtain ⟨hB, h0, h1, h2, hz⟩ := zfw w _ _ _ _ _ _ W0 hW0
 have HB := Lib.hid hB
 have H0 := Lib.hid h0
 have H1 := Lib.hid h1
 have H2 := Lib.hid h2
 have HZ := Lib.hid hz
 have HW := Lib.hid hW0
 have t1 : ((y : Int) != 0) = true := by simp; omega
 clear h hl hn hyy hW0 hB h0 h1 h2 hz hy
 go_enter Tryz.func98, Tryz.ntmps98
 go_wp2_with fail
 rw [← HW.out]
 refine (HC.out W0 HB.out).mono ?_
 rintro e w1 ⟨v, rfl, o1, g1⟩
 obtain ⟨p1, c1, rfl⟩ := zis o1 HL.out
 obtain ⟨W2, hW2⟩ : ∃ W2, W2 = w1.alloc (.cells (tr ⟨⟨p1, n, c1⟩⟩) 28) := ⟨_, rfl⟩
 have g2 : Below W0.heap.size W0 W2 := by rw [hW2]; exact zad g1 below1
 have HM2 : Hid (W2.heap[w1.heap.size]? = some (.cells (tr ⟨⟨p1, n, c1⟩⟩) 28 (0, 0))) := by rw [hW2]; exact heap_alloc_last w1 _
 have G2 := Lib.hid g2
 have HO2 : Hid (OwnE Ene W2 W0.heap.size (.slice p1 n c1) l) := by rw [hW2]; exact za6 o1 _
 have HW2 := Lib.hid hW2
 have z1 := zaf (zab g1 H0.out) (zbf _)
 have z2 := zaf (zab g1 H1.out) (zhr _)
 have z3 : w.heap.size < w1.heap.size := (Array.getElem?_eq_some_iff.1 (zab g1 H0.out)).1
 have z4 : w.heap.size + 1 < w1.heap.size := (Array.getElem?_eq_some_iff.1 (zab g1 H1.out)).1
 clear o1 g2 hW2 g1
 go_wp2_with fail
 rw [← HW2.out]
 refine (HR.out W2 (zad HB.out G2.out)).mono ?_
 rintro e w3 ⟨rfl, g3⟩
 have G3 := Lib.hid (zad G2.out g3)
 have HO3 := Lib.hid (zah g3 HO2.out)
 have M3 := zab g3 HM2.out
 have N3 := Lib.hid (zab (zad G2.out g3) H2.out)
 have y1 := zaf M3 (zbf _)
 have y2 := za8 N3.out (zbf _)
 clear z1 z2 z3 z4 g3 M3
 go_wp2_with fail
 exact bodyPost_ret (zal Tryz.isAgg28 Tryz.sizeOf28 _ 4 5 rfl _ _ _ _ _ rfl rfl (zpe N3.out (zbf _) (zbf _))) rfl ⟨⟨p1, n, c1⟩, rfl, z6k (zak HO3.out) (fun e => by have := (zbm HO3.out e).1; have := HZ.out; omega), (fun b hb => by have := (zbm HO3.out hb).1; have := HZ.out; omega), zav (zad HB.out G3.out) (by omega)⟩
theorem zuu (p : Option Addr) (n cp : Nat) (l : List Nd) (x : Bk) (w : World) (h : SlE Ene w (.slice p n cp) l) (hl : l.length = n) (hy : insE l x.root x.parent x.slot = 0) :
  Calls Tryz.prog 98 #[.agg (tr ⟨⟨p, n, cp⟩⟩), .agg (bk x)] w (z5c (l ++ [insN l x.root x.parent x.slot x.just]) 0 w) := by
 have hn12 := (zsx hy).2.2.2.2
 have HN : Hid (n ≤ 12) := by show n ≤ 12; omega
 have HC := Lib.hid (fun W (g : Below w.heap.size w W) => z44 ⟨p, n, cp⟩ l W (zac g h) (by omega))
 have HR := Lib.hid (fun W (g : Below w.heap.size w W) => zvr ⟨p, n, cp⟩ l x W (zac g h))
 rw [hy] at HR
 have HF := Lib.hid (fun W (g : Below w.heap.size w W) => zfk ⟨p, n, cp⟩ l x.parent W (zac g h))
 obtain ⟨q, hq⟩ : ∃ q, q = zay l x.parent := ⟨_, rfl⟩
 obtain ⟨m, hm⟩ : ∃ m, m = insN l x.root x.parent x.slot x.just := ⟨_, rfl⟩
 have HMN : Hid (m = ⟨x.root, q, x.slot, x.just⟩) := by show m = _; rw [hm, hq]; rfl
 rw [← hm]
 rw [← hq] at HF
 have HL := Lib.hid hl
 obtain ⟨W0, hW0⟩ : ∃ W0, W0 = ((w.alloc (.cells (tr ⟨⟨p, n, cp⟩⟩) 28)).alloc (.cells (bk x) 69)).alloc (.cells (tr ztr) 28) := ⟨_, rfl⟩
 obtain ⟨hB, h0, h1, h2, hz⟩ := zfw w _ _ _ _ _ _ W0 hW0
 have HB := Lib.hid hB
 have H0 := Lib.hid h0
 have H1 := Lib.hid h1
 have H2 := Lib.hid h2
 have HZ := Lib.hid hz
 have HW := Lib.hid hW0
 clear h hl hn12 hW0 hB h0 h1 h2 hz hy hq hm
 go_enter Tryz.func98, Tryz.ntmps98
 go_wp2_with fail
 rw [← HW.out]
 refine (HC.out W0 HB.out).mono ?_
 rintro e w1 ⟨v, rfl, o1, g1⟩
 obtain ⟨p1, c1, rfl⟩ := zis o1 HL.out
 obtain ⟨W2, hW2⟩ : ∃ W2, W2 = w1.alloc (.cells (tr ⟨⟨p1, n, c1⟩⟩) 28) := ⟨_, rfl⟩
 have g2 : Below W0.heap.size W0 W2 := by rw [hW2]; exact zad g1 below1
 have HM2 : Hid (W2.heap[w1.heap.size]? = some (.cells (tr ⟨⟨p1, n, c1⟩⟩) 28 (0, 0))) := by rw [hW2]; exact heap_alloc_last w1 _
 have G2 := Lib.hid g2
 have HO1 : Hid (OwnE Ene W2 W0.heap.size (.slice p1 n c1) l) := by rw [hW2]; exact za6 o1 _
 have HO1b : Hid ((Value.slice p1 n c1).ownBlock ≠ some w1.heap.size) := yr3 o1 (Nat.le_refl _)
 have HW2 := Lib.hid hW2
 have z1 := zaf (zab g1 H0.out) (zbf _)
 have z2 := zaf (zab g1 H1.out) (zhr _)
 have z3 : w.heap.size < w1.heap.size := (Array.getElem?_eq_some_iff.1 (zab g1 H0.out)).1
 have z4 : w.heap.size + 1 < w1.heap.size := (Array.getElem?_eq_some_iff.1 (zab g1 H1.out)).1
 have HZ4 : Hid (w.heap.size + 3 ≤ w1.heap.size) := by show _ ≤ _; have := g1.size; have := HZ.out; omega
 clear o1 g2 hW2 g1
 go_wp2_with fail
 rw [← HW2.out]
 refine (HR.out W2 (zad HB.out G2.out)).mono ?_
 rintro e w3 ⟨rfl, g3⟩
 have G3 := Lib.hid (zad G2.out g3)
 have B3 := Lib.hid (zad HB.out (zad G2.out g3))
 have HO3 := Lib.hid (zah g3 HO1.out)
 have M3 := Lib.hid (zab g3 HM2.out)
 have N3 := Lib.hid (zab (zad G2.out g3) H2.out)
 have K0 := Lib.hid (zab (zad G2.out g3) H0.out)
 have K1 := Lib.hid (zab (zad G2.out g3) H1.out)
 clear z1 z2 z3 z4 g3
 go_wp2_with fail
 have hwB : w.heap.size + 2 ≤ w3.heap.size := by have := G3.out.size; have := HZ.out; omega
 have Q0 := za3 (za2 M3.out).1
 dsimp only at Q0
 rw [zat] at Q0
 have Q1 := zva (B := w.heap.size + 2) (za2 K0.out).2.1 (by omega)
 obtain ⟨k0, k1, k2, k3, _, _⟩ := z7w K1.out
 have Q2 := zva (B := w.heap.size + 2) k0 (by omega)
 have Q3 := zva (B := w.heap.size + 2) k1 (by omega)
 have Q4 := z72 (B := w.heap.size + 2) k2 (by omega)
 have Q5 := z72 (B := w.heap.size + 2) k3 (by omega)
 clear k0 k1 k2 k3
 refine zdj (w.heap.size + 2) [1] [7, 12, 13, 14, 16] (by kernel_rfl) (by kernel_rfl) (by kernel_rfl) ?_
 refine zbq rfl rfl rfl hwB ?_
 (first | go_big_quiet_step (fail) | quiet_step (fail)); refine wpQuiet_nil ?_
 refine zfc rfl rfl rfl hwB ?_
 (first | go_big_quiet_step (fail) | quiet_step (fail)); refine wpQuiet_nil ?_
 repeat (refine zbq rfl rfl rfl hwB ?_; (first | go_big_quiet_step (fail) | quiet_step (fail)); refine wpQuiet_nil ?_)
 refine zhy rfl rfl rfl zxp #[.agg (tr ⟨⟨p, n, cp⟩⟩), .agg (rc x.parent)] rfl ?_
 refine (HF.out w3.drew (zad B3.out (zap (Below.refl _ _) 1))).mono ?_
 rintro e u ⟨rfl, gu⟩
 refine ⟨_, rfl, gu, ?_⟩
 simp only [Act.put, List.setIfInBounds_toArray, List.set_cons_zero, List.set_cons_succ]
 have GU : Hid (Below w3.heap.size w3 u) := zad (zap (Below.refl _ _) 1) gu
 clear gu
 repeat (refine zbq rfl rfl rfl hwB ?_; (first | go_big_quiet_step (fail) | quiet_step (fail)); refine wpQuiet_nil ?_)
 refine znr rfl rfl (.agg (ne m)) u (by rw [HMN.out]; go_simp) (zcw (Below.refl _ _)) ?_
 simp only [Act.put, List.setIfInBounds_toArray, List.set_cons_zero, List.set_cons_succ]
 refine znr rfl rfl (.slice (some ⟨u.heap.size, 0, none⟩) 1 1) (u.alloc (.cells (ne m) 57)) (by go_simp) (zcw below1) ?_
 simp only [Act.put, List.setIfInBounds_toArray, List.set_cons_zero, List.set_cons_succ]
 refine ztf KneB rfl rfl (by kernel_rfl) (.tmp 20) (.tmp 32) rfl W0.heap.size _ l rfl (zah (zad GU.out below1) HO3.out) _ [m] rfl (ze9 _ [m] 1 _ _ _ rfl rfl (by simp [zan, Ene, zpt])) (by have := HL.out; have := HN.out; simp [maxLen]; omega) (by have := HL.out; have := HN.out; simp; omega) (by have := G3.out.size; have := GU.out.size; simp; omega) (by have := HZ.out; omega) ?_
 intro v5 w5 o5 g5
 simp only [Act.put, List.setIfInBounds_toArray, List.set_cons_zero, List.set_cons_succ]
 have D5 : Below W0.heap.size (u.alloc (.cells (ne m) 57)) w5 := g5.own (zah (zad GU.out below1) HO3.out) (by have := G3.out.size; have := GU.out.size; simp; omega)
 have B5 : Hid (Below w.heap.size w w5) := (zad B3.out (zad GU.out below1)).trans (D5.mono HB.out.size)
 have M5 := g5.heap (zab (zad GU.out below1) M3.out) HO1b.out
 have N5 : Hid (w5.heap[w.heap.size + 2]? = some (.cells (tr ztr) 28 (0, 0))) := (D5.block _ (by have := HZ.out; omega)).trans (zab (zad GU.out below1) N3.out)
 obtain ⟨p5, c5, rfl⟩ := zis o5 (n := n + 1) (by rw [List.length_append, HL.out]; rfl)
 have O5 := Lib.hid o5
 have HNE5 : Hid ((Value.slice p5 (n + 1) c5).ownBlock ≠ some w1.heap.size) := by
  intro e
  rcases g5.2 with h | h
  ·
   rw [h] at e; exact HO1b.out e
  ·
   have k1 := h _ e
   have k2 := (Array.getElem?_eq_some_iff.1 M3.out).1
   have k3 := GU.out.size
   have k4 := (below1 (w := u) (o := .cells (ne m) 57)).size
   omega
 have c0 : w5.cell? ⟨w1.heap.size, 0, none⟩ = some (.slice p1 n c1) ∧ w5.frozen? ⟨w1.heap.size, 0, none⟩ = false := ⟨by have := (za2 M5).1; dsimp only at this; rw [zat] at this; exact this, frozen_of_row _ _ _ _ _ M5⟩
 obtain ⟨c0, c1'⟩ := c0
 obtain ⟨W6, hW6⟩ : ∃ W6, W6 = w5.setCell ⟨w1.heap.size, 0, none⟩ (.slice p5 (n + 1) c5) := ⟨_, rfl⟩
 have M6 : Hid (W6.heap[w1.heap.size]? = some (.cells (tr ⟨⟨p5, n + 1, c5⟩⟩) 28 (0, 0))) := by
  have := zaq M5 0 (.slice p5 (n + 1) c5)
  rw [hW6]
  rwa [yg9] at this
 have N6 : Hid (W6.heap[w.heap.size + 2]? = some (.cells (tr ztr) 28 (0, 0))) := by
  rw [hW6, Below.heap_setCell _ _ _ _ (show w.heap.size + 2 ≠ w1.heap.size by have := HZ4.out; omega)]; exact N5.out
 have B6 : Hid (Below w.heap.size w W6) := by rw [hW6]; exact B5.out.setCell (p := ⟨w1.heap.size, 0, none⟩) (by have := HZ4.out; show w.heap.size ≤ w1.heap.size; omega) _
 have S6 : Hid (SlE Ene W6 (.slice p5 (n + 1) c5) (l ++ [m])) := by rw [hW6]; exact yni (zak O5.out) HNE5.out
 have HF6 : Hid (∀ b, (Value.slice p5 (n + 1) c5).ownBlock = some b → w.heap.size + 3 ≤ b) := fun b hb => by have := (zbm O5.out hb).1; have := HZ.out; omega
 have HW6 := Lib.hid hW6
 clear hW6 o5 g5 M5
 refine zbq rfl rfl rfl hwB ?_
 (first | go_big_quiet_step (fail) | quiet_step (fail)); refine wpQuiet_nil ?_
 refine zid rfl rfl W6 (by rw [HW6.out]; go_simp) (zcr (by kernel_rfl) (by rw [HW6.out]; exact (Below.refl _ _).setCell (p := ⟨w1.heap.size, 0, none⟩) (by have := HZ4.out; show w.heap.size + 2 ≤ w1.heap.size; omega) _)) ?_
 simp only [Act.put]
 refine zk4 ?_
 have f0 := zaf M6.out (zbf _)
 have f1 := za8 N6.out (zbf _)
 clear c0 c1' D5 Q0 Q1 Q2 Q3 Q4 Q5 hwB
 go_wp2_with fail
 exact bodyPost_ret (zal Tryz.isAgg28 Tryz.sizeOf28 _ 4 5 rfl _ _ _ _ _ rfl rfl (zpe N6.out (zbf _) (zbf _))) rfl ⟨⟨p5, n + 1, c5⟩, rfl, z6k S6.out (fun e => by have := HF6.out _ e; omega), (fun b hb => by have := HF6.out b hb; omega), zav B6.out (by omega)⟩
theorem z2y (s : SlV) (l : List Nd) (x : Bk) (w : World) (h : SlE Ene w (sv s) l) (hn : l.length * 56 ≤ 140737488355328) :
  Calls Tryz.prog 98 #[.agg (tr ⟨s⟩), .agg (bk x)] w (z5c (insL l x.root x.parent x.slot x.just) (insE l x.root x.parent x.slot) w) := by
 have hl := zdm h
 obtain ⟨p, n, cp⟩ := s
 dsimp only at hl
 unfold insL
 by_cases hy : insE l x.root x.parent x.slot = 0
 ·
  rw [if_pos hy, hy]
  exact zuu p n cp l x w h hl hy
 ·
  rw [if_neg hy]
  exact zw8 p n cp l x w h hl (by omega) hy
theorem yhk {g : Eg} {b : Bk} (m : MayS' g) (h0 : insE g.t b.root b.parent b.slot = 0) :
  zay (insL g.t b.root b.parent b.slot b.just) g.fin.root = zay g.t g.fin.root ∧ zay (insL g.t b.root b.parent b.slot b.just) b.root = g.t.length := by
 have hL : insL g.t b.root b.parent b.slot b.just = g.t ++ [insN g.t b.root b.parent b.slot b.just] := by unfold insL; rw [if_pos h0]
 have h' := zxn b.just h0
 rw [hL]
 exact ⟨zjx m.t h' (m.inJ _ m.fin), (z1z b.just h0).2⟩
structure PutW (w W : World) (B T R : Nat) (x : En) (g : Eg) (s7 : SlV) (l7 : List UInt64) : Prop where
 box : W.heap[T]? = some (.cells (en x) 39 (0, 0))
 r : EnAt W R
 l : LaidG W { x with w := s7 } { g with w := l7 }
 f : FarG T { x with w := s7 } { g with w := l7 }
 fr : FarG R { x with w := s7 } { g with w := l7 }
 ff : ∀ U, EnAt w U → FarG U { x with w := s7 } { g with w := l7 } ∧ W.heap[U]? = w.heap[U]?
 bw : Below B w W
 lo : B ≤ T
 lr : B ≤ R
 lw : w.heap.size ≤ T
 lv : w.heap.size ≤ R
theorem yqn {w W w7 : World} {B T R : Nat} {x0 x : En} {g0 g : Eg} {s7 : SlV} {l7 : List UInt64} {o : Obj} (hO : OwnG w B x0 g0) (hB : B ≤ w.heap.size) (A : Gp w x0 g0 R W T x g)
  (hx : x.bal = x0.bal ∧ x.v.l = x0.v.l ∧ x.late = x0.late ∧ x.k = x0.k ∧ x.j = x0.j) (hn : ∀ b, (sv x.t.n).ownBlock = some b → w.heap.size ≤ b)
  (ho : OwnE Enum w7 B (sv s7) l7) (hg : Gr (W.alloc o) (sv x0.w) w7 (sv s7)) : PutW w w7 B T R x g s7 l7 := by
 have hlt : ∀ b, (sv x0.w).ownBlock = some b → b < w.heap.size := fun b hb => (zbm hO.w hb).2
 have hsz : W.heap.size ≤ w7.heap.size := Nat.le_trans (by simp) hg.1.size
 have hk : ∀ k, k < W.heap.size → (sv x0.w).ownBlock ≠ some k → w7.heap[k]? = W.heap[k]? := fun k h1 h2 => by
  rw [hg.1.block k (by simp; omega) (fun e => h2 e.symm)]
  exact (below1 (w := W) (o := o)).block k h1
 have hT : w7.heap[T]? = some (.cells (en x) 39 (0, 0)) := (hk T A.lT (fun e => by have := hlt T e; have := A.s.lo; omega)).trans A.s.box
 have hR : EnAt w7 R := by
  obtain ⟨z, hz⟩ := A.r
  exact ⟨z, (hk R A.lR (fun e => by have := hlt R e; have := A.lr; omega)).trans hz⟩
 have keep : ∀ {α : Type} {E : Lie α} {s : SlV} {l : List α}, SlE E W (sv s) l → (∀ b, (sv s).ownBlock = some b → (sv x0.w).ownBlock ≠ some b) → SlE E w7 (sv s) l := fun h1 h2 => ze5 h1 hsz fun b hb e => hk b hb (h2 b e)
 obtain ⟨h1, h2, h3, h4, h5⟩ := hx
 have fw : ∀ U, EnAt w7 U → FarE U s7 l7 := fun U hU => zji ho zs9.2.1 hU
 refine ⟨hT, hR, ⟨keep A.s.l.t fun b hb e => by have := hn b hb; have := hlt b e; omega, keep A.s.l.bal fun b hb e => hO.sep b e (by rw [← h1]; exact hb), keep A.s.l.v fun b hb e => zh5 hO.w hO.v ymz.2.1 b e (by rw [← h2]; exact hb), zak ho,
  keep A.s.l.late fun b hb e => zh5 hO.w hO.late ymz.2.2.1 b e (by rw [← h3]; exact hb), keep A.s.l.k fun b hb e => zh5 hO.w hO.k ymz.2.2.2.1 b e (by rw [← h4]; exact hb), keep A.s.l.j fun b hb e => zh5 hO.w hO.j ymz.2.2.2.2 b e (by rw [← h5]; exact hb), A.s.l.out, A.s.l.fin, A.s.l.now⟩,
  A.s.f.setW (fw T ⟨x, hT⟩), A.fr.setW (fw R hR), fun U hU => ?_, ?_, Nat.le_trans hB A.s.lo, Nat.le_trans hB A.lr, A.s.lo, A.lr⟩
 ·
  have hq : w7.heap[U]? = w.heap[U]? := by
   refine (hk U (Nat.lt_of_lt_of_le hU.lt A.s.bw.size) fun e => ?_).trans (A.s.bw.block U hU.lt)
   obtain ⟨z, hz⟩ := hU
   obtain ⟨c, hc⟩ := zk6 hO.w e
   rw [hz] at hc
   injection hc with hc
   injection hc with _ hc
   exact zs9.2.1 hc.symm
  refine ⟨(A.ff U hU (hO.far hU)).setW (fw U ?_), hq⟩
  obtain ⟨z, hz⟩ := hU
  exact ⟨z, hq.trans hz⟩
 ·
  have b1 : Below B w (W.alloc o) := (A.s.bw.mono hB).trans (below1.mono (Nat.le_trans hB A.s.bw.size))
  exact b1.grown hg.1 (Nat.le_trans (Nat.le_trans hB A.s.bw.size) (by simp)) fun b hb => (zbm hO.w hb).1
theorem PutW.ret {w W : World} {B T R : Nat} {x : En} {g : Eg} {s7 : SlV} {l7 : List UInt64} (h : PutW w W B T R x g s7 l7) (n : Nat) :
  EgErB { g with w := l7 } n B w (.returned (.tuple #[.agg (en { x with w := s7 }), .int .i64 (n : Int)])) (stA (W.setCell ⟨T, 4, none⟩ (sv s7)) (.pointer (some ⟨R, 0, none⟩)) (.agg (en { x with w := s7 }))) :=
 ⟨_, rfl, (h.l.put h.f (zbl _ _) (zba _ _)).put h.fr (zd1 _ _) (zb1 _ _), zav (h.bw.setCell (p := ⟨T, 4, none⟩) h.lo _) h.lr, fun U hU => ⟨(h.ff U hU).1, (zb1 _ _ U (fun e => by have := hU.lt; have := h.lv; omega)).trans ((zba _ _ U (fun e => by have := hU.lt; have := h.lw; omega)).trans (h.ff U hU).2)⟩⟩
theorem PutW.bx {w W : World} {B T R : Nat} {x : En} {g : Eg} {s7 : SlV} {l7 : List UInt64} (h : PutW w W B T R x g s7 l7) : ldA (W.setCell ⟨T, 4, none⟩ (sv s7)) (.pointer (some ⟨T, 0, none⟩)) 42 = some (en { x with w := s7 }) :=
 zaf (by rw [zaq h.box 4 (sv s7), zx4]) (zas _)
theorem PutW.er {w W : World} {B T R : Nat} {x : En} {g : Eg} {s7 : SlV} {l7 : List UInt64} (h : PutW w W B T R x g s7 l7) (hn : R ≠ T) : EnAt (W.setCell ⟨T, 4, none⟩ (sv s7)) R := zjr _ _ hn h.r
theorem zmt : ∀ args w, (callFunc 15 args).run Tryz.prog w = .ok (.enter 15 args) w := zbb Tryz.func15 (by kernel_rfl) (by kernel_rfl)
theorem zuv : ∀ args w, (callFunc 20 args).run Tryz.prog w = .ok (.enter 20 args) w := zbb Tryz.func20 (by kernel_rfl) (by kernel_rfl)
theorem zu0 (x : En) (g : Eg) (b : Bk) (B : Nat) (w : World) (h : OwnG w B x g) (hBw : B ≤ w.heap.size) (m : MayS' g) (sg : zbz g) :
  Calls Tryz.prog 68 #[.agg (en x), .agg (bk b)] w (EgErB (blkG g b) (ze6 g b) B w) := by
 obtain ⟨W0, hW0⟩ : ∃ W0, W0 = ((w.alloc (.cells (en x) 39)).alloc (.cells (bk b) 69)).alloc (.cells (en zen) 39) := ⟨_, rfl⟩
 obtain ⟨hB, q0, q1, q2, _⟩ := zfw w _ _ _ _ _ _ W0 hW0
 have A : Hid (Gp w x g (w.heap.size + 2) W0 w.heap.size x g) := zfx h.laid hB q0 ⟨_, q2⟩ (Nat.le_refl _) (by omega) (by omega)
 have M := Lib.hid q1
 have HW := Lib.hid hW0
 have HOw := Lib.hid h
 have HBw := Lib.hid hBw
 have HSg := Lib.hid sg
 have hm := zdu.2 m
 have HI := Lib.hid (fun W hh => z2y x.t.n g.t b W hh (by have := sg.t; omega))
 have HFi := Lib.hid (fun h0 => yhk (b := b) m h0)
 obtain ⟨G, hG⟩ : ∃ G, G = blkG g b := ⟨_, rfl⟩
 obtain ⟨R, hR⟩ : ∃ R, R = ze6 g b := ⟨_, rfl⟩
 obtain ⟨E, hE⟩ : ∃ E, E = insE g.t b.root b.parent b.slot := ⟨_, rfl⟩
 obtain ⟨L, hL⟩ : ∃ L, L = insL g.t b.root b.parent b.slot b.just := ⟨_, rfl⟩
 obtain ⟨F, hF⟩ : ∃ F, F = zay g.t g.fin.root := ⟨_, rfl⟩
 obtain ⟨Y, hY⟩ : ∃ Y, Y = zcj L F g.t.length := ⟨_, rfl⟩
 obtain ⟨N, hN⟩ : ∃ N, N = g.now.toNat := ⟨_, rfl⟩
 obtain ⟨S, hS⟩ : ∃ S, S = b.slot.toNat := ⟨_, rfl⟩
 have HR7 : Hid (N < S → R = 7 ∧ G = g) := fun e => by
  have e1 := yeo hm (b := b) (by rw [← hN, ← hS]; exact e)
  exact ⟨by rw [hR, e1], by rw [hG]; exact znh (by rw [e1]; decide)⟩
 have HRE : Hid (¬ N < S → E ≠ 0 → R = E ∧ G = g) := fun e e0 => by
  have e1 := ygn hm (b := b) (by rw [← hN, ← hS]; exact e) (by rw [← hE]; exact e0)
  exact ⟨by rw [hR, e1, hE], by rw [hG]; exact znh (by rw [e1, ← hE]; exact e0)⟩
 have HRO : Hid (¬ N < S → E = 0 → (Y = false → R = 8 ∧ G = g) ∧ (Y = true → R = 0 ∧ G = { g with t := L, w := g.w ++ [0] })) := fun e e0 => by
  have e1 := ygt hm (b := b) (by rw [← hN, ← hS]; exact e) (by rw [← hE]; exact e0)
  rw [← hL, ← hF, ← hY, ← hR] at e1
  refine ⟨fun hy => ?_, fun hy => ?_⟩
  ·
   rw [hy, if_neg (by decide)] at e1
   exact ⟨e1, by rw [hG]; exact znh (by rw [← hR, e1]; decide)⟩
  ·
   rw [hy, if_pos rfl] at e1
   exact ⟨e1, by rw [hG, ys7 (by rw [← hR]; exact e1), ← hL]⟩
 rw [← hE, ← hL] at HI
 rw [← hE, ← hL, ← hF] at HFi
 have HYd := Lib.hid hY
 rw [← hR, ← hG]
 obtain ⟨T, hT⟩ : ∃ T, T = w.heap.size := ⟨_, rfl⟩
 obtain ⟨U, hU⟩ : ∃ U, U = w.heap.size + 1 := ⟨_, rfl⟩
 obtain ⟨Q, hQ⟩ : ∃ Q, Q = w.heap.size + 2 := ⟨_, rfl⟩
 have HTQ : Hid (T = w.heap.size ∧ U = w.heap.size + 1 ∧ Q = w.heap.size + 2) := ⟨hT, hU, hQ⟩
 rw [← hQ, ← hT] at A
 rw [← hU] at M
 have HN := Lib.hid hN
 have HS := Lib.hid hS
 clear hW0 hB q0 q1 q2 h m sg hm hG hR hE hL hF hY hN hS hBw
 go_enter Tryz.func68, Tryz.ntmps68
 go_upto_region 1 with fail
 rw [← HW.out, ← hQ, ← hU, ← hT]
 clear hT hQ hU HW
 have z1 := A.out.s.v.zn
 have z2 := zl8 M.out
 have z2' : W0.cell? ⟨U, 64, none⟩ = some (.int .u64 (S : Int)) := by rw [HS.out]; exact z2
 rw [← HN.out] at z1
 clear z2
 by_cases h1 : N < S
 ·
  have t1 : decide ((N : Int) < (S : Int)) = true := decide_eq_true (by omega)
  have t1' : decide (N < S) = true := decide_eq_true h1
  have HH := Lib.hid (HR7.out h1)
  have z := A.out.s.v.z
  have wr := A.out.wrR
  clear h1
  go_wp2_with fail
  have EE := (A.out.ret 7).b HBw.out (fun U hU => HOw.out.far hU)
  rw [HH.out.1, HH.out.2]
  exact bodyPost_ret (zal Tryz.isAgg39 Tryz.sizeOf39 _ 4 5 rfl _ _ _ _ _ rfl rfl A.out.out) rfl EE
 have t1 : decide ((N : Int) < (S : Int)) = false := decide_eq_false (by omega)
 have t1' : decide (N < S) = false := decide_eq_false h1
 replace HRE := Lib.hid (HRE.out h1)
 replace HRO := Lib.hid (HRO.out h1)
 have zT := A.out.s.v.zT
 have zb := zaf M.out (zhr _)
 clear h1 HR7
 go_wp2_with fail
 refine (HI.out _ A.out.s.l.t).mono ?_
 rintro e w1 ⟨s, rfl, hs, hf, gg⟩
 have HlT : Hid (w.heap.size ≤ W0.heap.size) := A.out.s.bw.size
 have HNew : Hid (∀ b, (sv s).ownBlock = some b → w.heap.size ≤ b) := fun b hb => Nat.le_trans HlT.out (hf b hb)
 replace A := Lib.hid (A.out.keep gg)
 replace M := Lib.hid (zab gg M.out)
 clear gg zT zb z1 z2' t1 t1' hf HI
 go_upto_region 4 with fail
 obtain ⟨w2, hw2⟩ : ∃ w2, w2 = w1.alloc (.cells (tr ⟨s⟩) 28) := ⟨_, rfl⟩
 rw [← hw2]
 have gg : Below w1.heap.size w1 w2 := by rw [hw2]; exact below1
 have X6 : Hid (w2.heap[w1.heap.size]? = some (.cells (tr ⟨s⟩) 28 (0, 0))) := by show _ = _; rw [hw2]; exact heap_alloc_last _ _
 have HS2 := Lib.hid (zac gg hs)
 have H6 : Hid (w1.heap.size ≠ T) := by
  show _ ≠ _
  have := A.out.lT
  omega
 replace A := Lib.hid (A.out.keep gg)
 replace M := Lib.hid (zab gg M.out)
 obtain ⟨T6, hT6⟩ : ∃ n, n = w1.heap.size := ⟨_, rfl⟩
 rw [← hT6] at X6 H6 ⊢
 clear gg hw2 hs hT6
 by_cases h0 : E = 0
 case neg =>
  have HH := Lib.hid (HRE.out h0)
  have t0 : ((E : Int) == 0) = false := by simp; omega
  have t0n : ((E : Int) != 0) = true := by simp; omega
  have t0' : decide (E = 0) = false := decide_eq_false h0
  have z := A.out.s.v.z
  have wr := A.out.wrR
  clear h0
  go_wp2_with fail
  have EE := (A.out.ret E).b HBw.out (fun U hU => HOw.out.far hU)
  rw [HH.out.1, HH.out.2]
  exact bodyPost_ret (zal Tryz.isAgg39 Tryz.sizeOf39 _ 4 5 rfl _ _ _ _ _ rfl rfl A.out.out) rfl EE
 case pos =>
 replace HRO := Lib.hid (HRO.out h0)
 replace HFi := Lib.hid (HFi.out h0)
 subst h0
 go_upto_region 6 with fail
 have Q1 := fun q : Wd w2.drew => zb8 (zaf X6.out (zbf _)) (by decide) q
 have Q2 := fun q : Wd w2.drew => zb8 A.out.s.v.zr (by decide) q
 have Q3 := fun q : Wd w2.drew => zb8 (zsy M.out) (by decide) q
 refine za4 [5, 9, 10] (by kernel_rfl) (by kernel_rfl) (by kernel_rfl) ?_
 repeat (refine zae rfl rfl _ zag ?_; (first | go_big_quiet_step (fail) | quiet_step (fail)); refine wpQuiet_nil ?_)
 refine zau rfl rfl rfl zmt #[.agg (tr ⟨s⟩), .agg (rc g.fin.root)] rfl ?_
 refine (zfk s L g.fin.root _ (zac (zap (Below.refl _ _) 1) HS2.out)).mono ?_
 rintro e u1 ⟨rfl, gg⟩
 rw [HFi.out.1]
 refine ⟨_, rfl, gg, ?_⟩
 simp only [Act.put, List.setIfInBounds_toArray, List.set_cons_zero, List.set_cons_succ]
 have GU : Hid (Below w2.heap.size w2 u1) := zad (zap (Below.refl _ _) 1) gg
 clear gg
 repeat (refine zae rfl rfl _ zag ?_; (first | go_big_quiet_step (fail) | quiet_step (fail)); refine wpQuiet_nil ?_)
 refine zau rfl rfl rfl zmt #[.agg (tr ⟨s⟩), .agg (rc b.root)] rfl ?_
 refine (zfk s L b.root _ (zac GU.out HS2.out)).mono ?_
 rintro e u2 ⟨rfl, gg⟩
 rw [HFi.out.2]
 refine ⟨_, rfl, gg, ?_⟩
 simp only [Act.put, List.setIfInBounds_toArray, List.set_cons_zero, List.set_cons_succ]
 replace GU : Hid (Below w2.heap.size w2 u2) := zad GU.out gg
 clear gg
 repeat (refine zae rfl rfl _ zag ?_; (first | go_big_quiet_step (fail) | quiet_step (fail)); refine wpQuiet_nil ?_)
 refine zau rfl rfl rfl zuv #[.agg (tr ⟨s⟩), .int .i64 F, .int .i64 (g.t.length : Int)] rfl ?_
 refine (zh2 s L F g.t.length _ (zac GU.out HS2.out)).mono ?_
 rintro e u3 ⟨rfl, gg⟩
 rw [← HYd.out]
 refine ⟨_, rfl, gg, ?_⟩
 simp only [Act.put, List.setIfInBounds_toArray, List.set_cons_zero, List.set_cons_succ]
 replace GU : Hid (Below w2.heap.size w2 u3) := zad GU.out gg
 clear gg
 repeat (refine zae rfl rfl _ zag ?_; (first | go_big_quiet_step (fail) | quiet_step (fail)); refine wpQuiet_nil ?_)
 refine zbx ?_
 replace A := Lib.hid (A.out.keep GU.out)
 replace X6 := Lib.hid (zab GU.out X6.out)
 replace HS2 := Lib.hid (zac GU.out HS2.out)
 clear Q1 Q2 Q3 GU M
 cases Y
 ·
  have HH := Lib.hid (HRO.out.1 rfl)
  have z := A.out.s.v.z
  have wr := A.out.wrR
  go_wp2_with fail
  have EE := (A.out.ret 8).b HBw.out (fun U hU => HOw.out.far hU)
  rw [HH.out.1, HH.out.2]
  exact bodyPost_ret (zal Tryz.isAgg39 Tryz.sizeOf39 _ 4 5 rfl _ _ _ _ _ rfl rfl A.out.out) rfl EE
 have HH := Lib.hid (HRO.out.2 rfl)
 clear HRO HRE HFi
 have z6 := zaf X6.out (zbf _)
 have wt := A.out.s.wr 0 1 (by decide)
 go_upto_region 9 with fail
 have A3 := A.out.putT HS2.out
 obtain ⟨w3, hw3⟩ : ∃ w3, w3 = stA u3 (.pointer (some ⟨T, 0, none⟩)) (.agg (tr ⟨s⟩)) := ⟨_, rfl⟩
 rw [← hw3] at A3 ⊢
 replace A := Lib.hid A3
 clear A3 hw3 z6 wt X6 HS2
 have HWs : Hid (OwnE Enum w3 B (sv x.w) g.w) := zah A.out.s.bw HOw.out.w
 obtain ⟨⟨pw, nw, cw⟩, hsw⟩ : ∃ q : SlV, q = x.w := ⟨_, rfl⟩
 have HSw := Lib.hid hsw
 have HWl : Hid (g.w.length ≤ 1000) := HSg.out.w
 have zw : w3.cell? ⟨T, 4, none⟩ = some (.slice pw nw cw) := by rw [← zat, HSw.out]; exact A.out.s.v.zw
 rw [← hsw, zat] at HWs
 have HBt : Hid (B ≤ w3.heap.size) := Nat.le_trans HBw.out A.out.s.bw.size
 clear hsw
 go_wp2_with (at_builtin; refine zbs Knum _ rfl (.tmp 41) (.tmp 42) rfl B _ g.w rfl (zah below1 HWs.out) _ [0] rfl (ze9 _ [0] 1 _ _ _ rfl rfl (by simp [zan, Enum, num])) (by have := HWl.out; simp; omega) (by have := HBt.out; simp; omega) ?_; intro v7 w7 ho7 hg7; obtain ⟨s7, rfl⟩ : ∃ s : SlV, v7 = sv s := (by obtain ⟨p, c, e, _⟩ := zaj (zak ho7); exact ⟨⟨p, _, c⟩, e⟩); have PE : Hid (PutW w w7 B T Q { x with t := ⟨s⟩ } { g with t := L } s7 (g.w ++ [0])) := yqn HOw.out HBw.out A.out ⟨rfl, rfl, rfl, rfl, rfl⟩ HNew.out ho7 (by rw [← HSw.out, zat]; exact hg7); have zz := zq1 PE.out.box; dsimp only at zz; have ff := frozen_of_row w7 T 4 _ _ PE.out.box; obtain ⟨⟨p7, n7, c7⟩, hs7⟩ : ∃ q : SlV, q = s7 := ⟨_, rfl⟩; rw [← hs7, zat]; have HS7 := Lib.hid hs7; clear ho7 hg7 hs7 zw; go_upto_region 10 with fail)
 have z := PE.out.bx
 have er := PE.out.er A.out.ne
 rw [← HS7.out, zat] at z er
 obtain ⟨w8, hw8⟩ : ∃ W : World, W = w7.setCell ⟨T, 4, none⟩ (.slice p7 n7 c7) := ⟨_, rfl⟩
 rw [← hw8] at z er ⊢
 have HW8 := Lib.hid hw8
 obtain ⟨q, hq⟩ := er
 have wr := za8 hq (zas q)
 have HQ := Lib.hid hq
 clear zz ff hw8 hq
 go_wp2_with fail
 have EE := PE.out.ret 0
 rw [← HS7.out, zat, ← HW8.out] at EE
 rw [HH.out.1, HH.out.2]
 exact bodyPost_ret (zal Tryz.isAgg39 Tryz.sizeOf39 _ 4 5 rfl _ _ _ _ _ rfl rfl (zaf (zby HQ.out (by rw [zas, zas])) (zas _))) rfl EE
end Go.Proofs.YtmihlihlpdkdcaaGreat
