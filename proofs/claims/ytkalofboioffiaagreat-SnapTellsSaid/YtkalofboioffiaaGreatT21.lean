import Derived.Test.YtkalofboioffiaaGreatT20
import Derived.Maps.OwnOps
import Derived.RangeFuncNested
import Derived.RangeFuncBound
import Derived.RangeFuncLeaves
import Derived.RangeFuncFrom
import Derived.RangeFuncWrites
import Derived.Shelf.Abstract
import Derived.Shelf.RegionOpen
import Derived.OwnWalkIn
import Derived.TacticsInMore
import Derived.LoopNIn
import Derived.LoopIn
namespace Go.Proofs.YtkalofboioffiaaGreat
open Go.RowKit
set_option maxRecDepth 200000
set_option maxHeartbeats 64000000
section
open Go.Maps
theorem zuw {P : Program} {T k e : TypeId} (hu : P.underlying T = some (.map k e)) (n : Int) (w : World) : (Instr.makeMap T (some (.int .i64 n))).run P w = .ok (.map (some w.heap.size)) (w.alloc (.map #[] 0)) := by
 simp only [Instr.makeMap]
 simp [run_underlying hu, asInt]
 rfl
def yhv (D : DataW Unit) (n : Nat) (w : World) (e : Ending) (w' : World) : Prop := ∃ b, e = .returned (.map (some b)) ∧ w'.ownsMap Tryz.prog 34 (plainElem Tryz.prog 3) b n D ∧ Below w.heap.size w w'
theorem zk4 (p : Option Addr) (n cp : Nat) (l : List Nd) (w : World) (h : SlE Ene w (.slice p n cp) l) (hl : l.length = n) (hn : n ≤ 1000) :
  Calls Tryz.prog 48 #[.agg (tr ⟨⟨p, n, cp⟩⟩)] w (yhv (plD l n) n w) := by
 have hmm := zuw (P := Tryz.prog) Tryz.underlying94
 have HL := Lib.hid hl
 have HN := Lib.hid hn
 obtain ⟨W0, hW0⟩ : ∃ W0, W0 = w.alloc (.cells (tr ⟨⟨p, n, cp⟩⟩) 24) := ⟨_, rfl⟩
 have hB0 : Below w.heap.size w W0 := by rw [hW0]; exact below1
 have HS := Lib.hid (zad hB0 h)
 have M0 : Hid (W0.heap[w.heap.size]? = some (.cells (tr ⟨⟨p, n, cp⟩⟩) 24 (0, 0))) := by rw [hW0]; exact heap_alloc_last w _
 have HW := Lib.hid hW0
 have HB := Lib.hid hB0
 have Hb0 : Hid (W0.heap.size = w.heap.size + 1) := by rw [hW0]; exact World.size_alloc _ _
 clear hW0 h hl hn hB0
 go_enter Tryz.func48, Tryz.ntmps48
 go_wp2_with fail
 go_loopw [13] (fun i wr => ∃ j : Nat, j ≤ n ∧ i = .int .i64 (j : Int) ∧ wr.ownsMap Tryz.prog 34 (plainElem Tryz.prog 3) (w.heap.size + 1) j (plD l j) ∧ Below W0.heap.size W0 wr) (fun i _ => n - (intOf i).toNat)
 case atStart => exact ⟨0, Nat.zero_le _, rfl, by rw [← HW.out, ← Hb0.out]; exact World.ownsMap_made _ _ _ _, by rw [← HW.out]; exact below1⟩
 case round =>
  obtain ⟨j, hj, rfl, hown, hb⟩ := hrel
  have HO := Lib.hid hown
  have HBB := Lib.hid hb
  obtain ⟨z0, z1, zl⟩ := zai (zac hb M0.out)
  dsimp only at z0
  rw [za0] at z0
  clear hown hb
  by_cases hlt : j < n
  ·
   have i0 : (0 : Int) ≤ (j : Int) := by omega
   have i1 : (j : Int) < (n : Int) := by omega
   have u1 : (j : Int) + 1 < 10000 := by have := HN.out; omega
   obtain ⟨b1, o1, rfl, q1, x1⟩ := zcj HS.out (by have := HL.out; omega)
   have y1 := keep HBB.out (zjd x1 (i := j) (by have := HL.out; omega))
   have HXn : Hid (∃ x, x = nd l j) := ⟨_, rfl⟩
   clear x1 q1
   obtain ⟨x, hx⟩ := HXn.out
   rw [← hx] at y1
   have HXx := Lib.hid hx
   clear HXn hx
   go_wp2_with (at_mapUpdate; refine wpList_mapUpdate_own _ rfl _ _ _ 94 rfl 34 3 keyed_root Tryz.underlying94 (plainElem Tryz.prog 3) (w.heap.size + 1) j _ rfl (HO.out.alloc _) (by unfold maxLen; omega) _ _ _ rfl rfl (zi4 x.root) _ [] (plainElem_int Tryz.underlying3 (WalkArith.wf_i64 (by omega))) ?_; intro w1 hown1 hgrow1)
   go_roundw
   case rel => exact ⟨j + 1, by omega, by go_num, by unfold plD; rw [← HXx.out]; exact hown1, (zab HBB.out below1).grown hgrow1 (by have := HBB.out.size; simp; omega) (fun k hk => by cases hk; rw [Hb0.out]; exact Nat.le_refl _)⟩
   case measure => simp [intOf]; omega
  ·
   obtain rfl : j = n := by omega
   clear hlt
   go_wp2_with fail
   go_ret
   exact ⟨_, rfl, HO.out, zab HB.out HBB.out⟩
theorem z29 (s : SlV) (l : List Nd) (w : World) (h : SlE Ene w (sv s) l) (hn : l.length ≤ 1000) :
  Calls Tryz.prog 48 #[.agg (tr ⟨s⟩)] w (yhv (plD l l.length) l.length w) := by
 have hs := zbk h
 obtain ⟨p, n, cp⟩ := s
 dsimp only at hs
 subst hs
 exact zk4 p _ cp l w h rfl hn
theorem ziw : ∀ args w, (callFunc 48 args).run Tryz.prog w = .ok (.enter 48 args) w := za7 Tryz.func48 (by kernel_rfl) (by kernel_rfl)
def zeo (l : List Nd) (i : Nat) : Prop := (i = 0 → (nd l i).parent = -1) ∧ (0 < i → 0 ≤ (nd l i).parent ∧ (nd l i).parent < i ∧ sl l (up l i) < sl l i)
instance (l : List Nd) (i : Nat) : Decidable (zeo l i) := by unfold zeo; exact inferInstance
theorem z28 (b1 o1 n cp : Nat) (l : List Nd) (i : Nat) (w : World) (hb : b1 < w.heap.size) (h : w.rangeAt b1 o1 (zaq Ene l)) (hl : l.length = n) (hn : n ≤ 1000) (hi : i < n) :
  Calls Tryz.prog 94 #[.agg (tr ⟨⟨some ⟨b1, o1, none⟩, n, cp⟩⟩), .int .i64 (i : Int)] w fun e w' => e = .returned (.bool (decide (zeo l i))) ∧ Below w.heap.size w w' := by
 have HB : Hid (Below w.heap.size w (w.alloc (.cells (tr ⟨⟨some ⟨b1, o1, none⟩, n, cp⟩⟩) 24))) := below1
 have X1 := Lib.hid h
 have HN := Lib.hid hn
 have HL := Lib.hid hl
 have HI := Lib.hid hi
 have i0 : (0 : Int) ≤ (i : Int) := by omega
 have i1 : (i : Int) < (n : Int) := by omega
 have y1 := zga h (i := i) (by omega)
 have y2 := zhm h (i := i) (by omega)
 obtain ⟨r, hr⟩ : ∃ r, r = decide (zeo l i) := ⟨_, rfl⟩
 rw [← hr]
 have HR := Lib.hid hr
 obtain ⟨q, hq⟩ : ∃ q, q = (nd l i).parent := ⟨_, rfl⟩
 rw [← hq] at y1
 have HQ := Lib.hid hq
 clear h hn hl hr hq hi
 by_cases h0 : i = 0
 ·
  subst h0
  have HR' : Hid (r = (q == -1)) := by
   show r = _
   rw [HR.out, Bool.eq_iff_iff, decide_eq_true_iff, beq_iff_eq, HQ.out]
   unfold zeo
   exact ⟨fun h => h.1 rfl, fun h => ⟨fun _ => h, fun h => absurd h (Nat.lt_irrefl _)⟩⟩
  go_enter Tryz.func94, Tryz.ntmps94
  rw [Nat.zero_mul, Nat.add_zero] at y1
  go_wp2_with fail
  go_ret
  exact ⟨by rw [HR'.out]; first | done | rfl, HB.out⟩
 ·
  have c0 : ((i : Int) == 0) = false := by simpa using h0
  have c0' : decide ((i : Int) = 0) = false := by simpa using h0
  have c0'' : decide (i = 0) = false := by simpa using h0
  have H0 : Hid (0 < i) := Nat.pos_of_ne_zero h0
  have HF : Hid (¬ (0 ≤ q ∧ q < i ∧ sl l q.toNat < sl l i) → r = false) := fun hno => by
   rw [HR.out, decide_eq_false_iff_not]
   intro hbt
   have := hbt.2 H0.out
   unfold up at this
   rw [← HQ.out] at this
   exact hno this
  clear h0
  by_cases hp : 0 ≤ q
  ·
   have t1 : decide (0 ≤ q) = true := decide_eq_true hp
   by_cases hlt : q < (i : Int)
   ·
    have t2 : decide (q < (i : Int)) = true := decide_eq_true hlt
    obtain ⟨m, rfl⟩ : ∃ m : Nat, q = m := ⟨q.toNat, by omega⟩
    have t1' : decide ((0 : Int) ≤ (m : Int)) = true := t1
    have t2' : decide (m < i) = true := by rw [decide_eq_true_iff]; omega
    have i2 : (m : Int) < (n : Int) := by have := HI.out; omega
    have i3 : (0 : Int) ≤ (m : Int) := by omega
    have y3 := zhm X1.out (i := m) (by have := HL.out; have := HI.out; omega)
    obtain ⟨v, hv⟩ : ∃ v, v = decide ((nd l m).slot.toNat < (nd l i).slot.toNat) := ⟨_, rfl⟩
    have HR' : Hid (r = v) := by
     show r = _
     rw [HR.out, hv]
     congr 1
     rw [eq_iff_iff]
     unfold zeo up
     rw [← HQ.out, Int.toNat_natCast]
     exact ⟨fun h => (h.2 H0.out).2.2, fun h => ⟨fun e => by have := H0.out; omega, fun _ => ⟨by omega, by omega, h⟩⟩⟩
    have t3 : decide ((nd l m).slot.toNat < (nd l i).slot.toNat) = v := hv.symm
    have t3' : decide (((nd l m).slot.toNat : Int) < ((nd l i).slot.toNat : Int)) = v := by rw [hv]; congr 1; rw [eq_iff_iff]; omega
    clear hp hlt hv t1
    go_enter Tryz.func94, Tryz.ntmps94
    go_wp2_with fail
    go_quiet (fail)
    go_wp2_with fail
    go_ret
    exact ⟨by rw [HR'.out]; first | done | rfl, zah HB.out _⟩
   ·
    have t2 : decide (q < (i : Int)) = false := decide_eq_false hlt
    have hR : Hid (r = false) := HF.out (fun h => hlt h.2.1)
    clear hp hlt
    go_enter Tryz.func94, Tryz.ntmps94
    go_wp2_with fail
    go_quiet (fail)
    go_wp2_with fail
    go_ret
    exact ⟨by rw [hR.out]; first | done | rfl, zah HB.out _⟩
  ·
   have t1 : decide (0 ≤ q) = false := decide_eq_false hp
   have hR : Hid (r = false) := HF.out (fun h => hp h.1)
   clear hp
   go_enter Tryz.func94, Tryz.ntmps94
   go_wp2_with fail
   go_quiet (fail)
   go_wp2_with fail
   go_ret
   exact ⟨by rw [hR.out]; first | done | rfl, zah HB.out _⟩
theorem zy3 (l : List Nd) : MayT l ↔ 1 ≤ l.length ∧ l.length ≤ 12 ∧ (∀ i, i < l.length → sl l i ≤ 1099511627776 ∧ zeo l i) ∧ Maps.size (plD l l.length) = l.length := by
 rw [zzg]
 unfold MayT zhw zeo
 exact ⟨fun h => ⟨h.1, h.2.1, fun i hi => ⟨(h.2.2 i hi).1, (h.2.2 i hi).2.1, (h.2.2 i hi).2.2.1⟩, fun i hi j hj => (h.2.2 i hi).2.2.2 j hj⟩,
  fun h => ⟨h.1, h.2.1, fun i hi => ⟨(h.2.2.1 i hi).1, (h.2.2.1 i hi).2.1, (h.2.2.1 i hi).2.2, fun j hj => h.2.2.2 i hi j hj⟩⟩⟩
theorem zxw (p : Option Addr) (n cp : Nat) (w : World) (hn : n = 0 ∨ 12 < n) :
  Calls Tryz.prog 47 #[.agg (tr ⟨⟨p, n, cp⟩⟩)] w fun e w' => e = .returned (.bool false) ∧ Below w.heap.size w w' := by
 have HB : Hid (Below w.heap.size w (w.alloc (.cells (tr ⟨⟨p, n, cp⟩⟩) 24))) := below1
 rcases hn with rfl | hn
 ·
  go_enter Tryz.func47, Tryz.ntmps47
  go_wp2_with fail
  go_ret
  exact ⟨rfl, HB.out⟩
 ·
  have t0 : ((n : Int) == 0) = false := by simp; omega
  have t0' : decide (n = 0) = false := by simp; omega
  have t1 : decide ((12 : Int) < (n : Int)) = true := by rw [decide_eq_true_iff]; omega
  have t1' : decide (12 < n) = true := decide_eq_true hn
  clear hn
  go_enter Tryz.func47, Tryz.ntmps47
  go_wp2_with fail
  go_ret
  exact ⟨rfl, HB.out⟩
theorem zu6 (b1 o1 n cp : Nat) (l : List Nd) (w : World) (hb : b1 < w.heap.size) (h : w.rangeAt b1 o1 (zaq Ene l)) (hcp : n ≤ cp) (hl : l.length = n) (h0 : 0 < n) (hn : n ≤ 12) :
  Calls Tryz.prog 47 #[.agg (tr ⟨⟨some ⟨b1, o1, none⟩, n, cp⟩⟩)] w fun e w' => e = .returned (.bool (decide (MayT l))) ∧ Below w.heap.size w w' := by
 obtain ⟨W0, hW0⟩ : ∃ W0, W0 = w.alloc (.cells (tr ⟨⟨some ⟨b1, o1, none⟩, n, cp⟩⟩) 24) := ⟨_, rfl⟩
 have hB0 : Below w.heap.size w W0 := by rw [hW0]; exact below1
 have M0 : Hid (W0.heap[w.heap.size]? = some (.cells (tr ⟨⟨some ⟨b1, o1, none⟩, n, cp⟩⟩) 24 (0, 0))) := by rw [hW0]; exact heap_alloc_last w _
 have X1 := Lib.hid (zbu hB0 h)
 have Q1 : Hid (b1 < W0.heap.size) := Nat.lt_of_lt_of_le hb hB0.size
 have HW := Lib.hid hW0
 have HB := Lib.hid hB0
 have HN := Lib.hid hn
 have HL := Lib.hid hl
 have HCP := Lib.hid hcp
 have H0 := Lib.hid h0
 obtain ⟨r, hr⟩ : ∃ r, r = decide (MayT l) := ⟨_, rfl⟩
 rw [← hr]
 have HR := Lib.hid hr
 have HNo : Hid (∀ i, i < n → ¬ (sl l i ≤ 1099511627776 ∧ zeo l i) → r = false) := by
  intro i hi hno
  rw [hr, decide_eq_false_iff_not, zy3]
  exact fun hm => hno (hm.2.2.1 i (by omega))
 have t0 : ((n : Int) == 0) = false := by simp; omega
 have t0' : decide (n = 0) = false := by simp; omega
 have t1 : decide ((12 : Int) < (n : Int)) = false := by rw [decide_eq_false_iff_not]; omega
 have t1' : decide (12 < n) = false := by rw [decide_eq_false_iff_not]; omega
 clear hW0 hB0 h hb hcp hl h0 hn hr
 go_enter Tryz.func47, Tryz.ntmps47
 go_wp2_with fail
 rw [← HW.out]
 clear t0 t0' t1 t1'
 go_loopw [17, 3] (fun i _ wr => ∃ j : Nat, j ≤ n ∧ i = .int .i64 (j : Int) ∧ (∀ k, k < j → sl l k ≤ 1099511627776 ∧ zeo l k) ∧ Below W0.heap.size W0 wr) (fun i _ _ => n - (intOf i).toNat)
 case atStart => exact ⟨0, Nat.zero_le _, rfl, fun k hk => absurd hk (Nat.not_lt_zero _), Below.refl _ _⟩
 case round =>
  obtain ⟨j, hj, rfl, hx, hb⟩ := hrel
  have HX := Lib.hid hx
  have HBB := Lib.hid hb
  obtain ⟨z0, z1, zl⟩ := zai (zac hb M0.out)
  dsimp only at z0
  rw [za0] at z0
  clear hx hb
  by_cases hlt : j < n
  ·
   have i0 : (0 : Int) ≤ (j : Int) := by omega
   have i1 : (j : Int) < (n : Int) := by omega
   have u1 : (j : Int) + 1 < 10000 := by have := HN.out; omega
   have y2 := zhm (zbu HBB.out X1.out) (i := j) (by have := HL.out; omega)
   by_cases hs : 1099511627776 < (nd l j).slot.toNat
   ·
    have t1 : decide ((1099511627776 : Int) < ((nd l j).slot.toNat : Int)) = true := by rw [decide_eq_true_iff]; omega
    have t1' : decide (1099511627776 < (nd l j).slot.toNat) = true := decide_eq_true hs
    have hR : Hid (r = false) := HNo.out j hlt (fun ho => by have := ho.1; unfold sl at this; omega)
    clear hs
    go_wp2_with fail
    go_ret
    exact ⟨by rw [hR.out]; first | done | rfl, zab HB.out HBB.out⟩
   ·
    have t1 : decide ((1099511627776 : Int) < ((nd l j).slot.toNat : Int)) = false := by rw [decide_eq_false_iff_not]; omega
    have t1' : decide (1099511627776 < (nd l j).slot.toNat) = false := decide_eq_false hs
    have HS : Hid (sl l j ≤ 1099511627776) := by show sl l j ≤ _; unfold sl; omega
    have HC := Lib.hid (z28 b1 o1 n cp l j wr (Nat.lt_of_lt_of_le Q1.out HBB.out.size) (zbu HBB.out X1.out) HL.out (by have := HN.out; omega) hlt)
    obtain ⟨c, hc⟩ : ∃ c, c = decide (zeo l j) := ⟨_, rfl⟩
    rw [← hc] at HC
    have HCc := Lib.hid hc
    clear hs hc
    go_wp2_with fail
    refine HC.out.mono ?_
    rintro e w1 ⟨rfl, g1⟩
    have G1 := Lib.hid (zab HBB.out g1)
    clear g1
    cases c
    ·
     have hR : Hid (r = false) := HNo.out j hlt (fun ho => by have := HCc.out; rw [decide_eq_true ho.2] at this; cases this)
     go_wp2_with fail
     go_ret
     exact ⟨by rw [hR.out]; first | done | rfl, zab HB.out G1.out⟩
    ·
     go_wp2_with fail
     go_roundw
     case rel => exact ⟨j + 1, by omega, by go_num, fun k hk => by
      rcases Nat.lt_succ_iff_lt_or_eq.1 hk with h | rfl
      ·
       exact HX.out k h
      ·
       exact ⟨HS.out, of_decide_eq_true HCc.out.symm⟩, G1.out⟩
     case measure => simp [intOf]; omega
  ·
   obtain rfl : j = n := by omega
   obtain ⟨m, hm⟩ : ∃ m, m = Maps.size (plD l j) := ⟨_, rfl⟩
   have hR : r = decide (m = j) := by
    rw [HR.out, hm]
    congr 1
    rw [eq_iff_iff, zy3, HL.out]
    exact ⟨fun h => h.2.2.2, fun h => ⟨H0.out, HN.out, HX.out, h⟩⟩
   have s1 : ((m : Int) == (j : Int)) = r := by rw [hR, Bool.eq_iff_iff, beq_iff_eq, decide_eq_true_iff]; omega
   have s2 : decide (m = j) = r := hR.symm
   have HM := Lib.hid hm
   clear hlt hR hm
   go_wp2_with fail
   have Lc := fun q : Wd wr.drew => yj6 (zac HBB.out M0.out) q
   have Ld := fun q : Wd wr.drew => zbc z0 q
   refine zaj [1] (by kernel_rfl) (by kernel_rfl) (by kernel_rfl) ?_
   repeat (refine zae rfl rfl _ zaf ?_; (first | go_big_quiet_step (fail) | quiet_step (fail)); refine wpQuiet_nil ?_)
   refine zan rfl rfl rfl ziw #[.agg (tr ⟨⟨some ⟨b1, o1, none⟩, j, cp⟩⟩)] rfl ?_
   refine (zk4 (some ⟨b1, o1, none⟩) j cp l _ (zad (zab HBB.out (zah (Below.refl _ _) 1)) ⟨some ⟨b1, o1, none⟩, cp, by rw [HL.out], by rw [HL.out]; exact HCP.out, .inr ⟨b1, o1, rfl, Q1.out, X1.out⟩⟩) HL.out (by have := HN.out; omega)).mono ?_
   rintro e u ⟨b, rfl, ho, g⟩
   refine ⟨_, rfl, g, ?_⟩
   simp only [Act.put, List.setIfInBounds_toArray, List.set_cons_zero, List.set_cons_succ]
   have Le := fun (q : Wd u) (ty : TypeId) => (zct q.h ho).len Tryz.underlying94 ty
   rw [← HM.out] at Le
   have G := Lib.hid (zab (zab HBB.out (zah (Below.refl _ _) 1)) g)
   clear g ho
   refine zae rfl rfl u (z4k 1 u (by simp) (by kernel_rfl)) ?_
   (first | go_big_quiet_step (fail) | quiet_step (fail))
   refine wpQuiet_nil ?_
   repeat (refine zae rfl rfl _ zaf ?_; (first | go_big_quiet_step (fail) | quiet_step (fail)); refine wpQuiet_nil ?_)
   refine za3 ?_
   go_wp2_with fail
   go_ret
   exact ⟨rfl, zab HB.out G.out⟩
theorem zfi (s : SlV) (l : List Nd) (w : World) (h : SlE Ene w (sv s) l) :
  Calls Tryz.prog 47 #[.agg (tr ⟨s⟩)] w fun e w' => e = .returned (.bool (decide (MayT l))) ∧ Below w.heap.size w w' := by
 have hs := zbk h
 obtain ⟨p, n, cp⟩ := s
 dsimp only at hs
 by_cases hf : n = 0 ∨ 12 < n
 ·
  have e : decide (MayT l) = false := by
   rw [decide_eq_false_iff_not]
   intro hm
   have := hm.1
   have := hm.2.1
   omega
  rw [e]
  exact zxw p n cp w hf
 ·
  obtain ⟨b, o, c, e1, hc, q, x⟩ := zcz h (by omega)
  unfold sv at e1
  injection e1 with e2 e4 e3
  dsimp only at e2 e3
  subst e2 e3
  exact zu6 b o n cp l w q x (by omega) hs (by omega) (by omega)
end
section
open Go.Maps
theorem z8x (w : World) : (zeroValue 3).run Tryz.prog w = .ok (.int .i64 0) w := by kernel_rfl
theorem yf7 {W : World} {b n : Nat} {D : DataW Unit} (h : W.ownsMap Tryz.prog 34 (plainElem Tryz.prog 3) b n D) {r : Rt} {c : Int} (hc : D.atKey (rk r) (iL 0) = .lit (.int .i64 c)) :
  (Instr.lookup 94 (.map (some b)) (.agg (rc r)) true).run Tryz.prog W = .ok (.tuple #[.int .i64 c, .bool (Maps.has D (rk r))]) W := by
 obtain ⟨v, ps, hrun, hv⟩ := h.look_ok keyed_root Tryz.underlying94 (z8x W) (plainElem_int Tryz.underlying3 (by decide)) (zi4 r)
 obtain ⟨a, rfl, hz, _⟩ := plainElem_int_inv Tryz.underlying3 hv
 have e : D.atKey (rk r) (.lit (.int .i64 0)) = .lit (.int .i64 a) := congrArg Prod.fst hz
 have hc' : D.atKey (rk r) (.lit (.int .i64 0)) = .lit (.int .i64 c) := hc
 rw [e] at hc'
 injection hc' with h1
 injection h1 with _ h2
 rw [← h2]
 exact hrun
def putR (l : List Nd) (r : Rt) : Int := if 0 ≤ zaz l r then zaz l r else 0
theorem ybw {l : List Nd} (h : MayT l) (r : Rt) : (plD l l.length).atKey (rk r) (iL 0) = .lit (.int .i64 (putR l r)) ∧ Maps.has (plD l l.length) (rk r) = decide (0 ≤ zaz l r) := by
 obtain ⟨h1, h2⟩ := ybv h r
 refine ⟨?_, h1⟩
 unfold putR
 by_cases hf : 0 ≤ zaz l r
 ·
  rw [if_pos hf]; exact h2 hf
 ·
  rw [if_neg hf]
  exact atKey_of_not_has (by rw [h1]; exact decide_eq_false hf) _
theorem zeh (s : SlV) (l : List Nd) (r : Rt) (w : World) (h : SlE Ene w (sv s) l) :
  Calls Tryz.prog 21 #[.agg (tr ⟨s⟩), .agg (rc r)] w fun e w' => e = .returned (.int .i64 (zaz l r)) ∧ Below w.heap.size w w' := by
 have HM := Lib.hid (fun W (g : Below w.heap.size w W) => zfi s l W (zad g h))
 have HS := Lib.hid h
 obtain ⟨a, ha⟩ : ∃ a, a = decide (MayT l) := ⟨_, rfl⟩
 rw [← ha] at HM
 have HA := Lib.hid ha
 obtain ⟨W0, hW0⟩ : ∃ W0, W0 = (w.alloc (.cells (tr ⟨s⟩) 24)).alloc (.cells (rc r) 34) := ⟨_, rfl⟩
 obtain ⟨hB, h0, h1, hz⟩ := zc2 w _ _ _ _ W0 hW0
 have HB := Lib.hid hB
 have H0 := Lib.hid h0
 have H1 := Lib.hid h1
 have HW := Lib.hid hW0
 obtain ⟨x, hx⟩ : ∃ x, x = zaz l r := ⟨_, rfl⟩
 rw [← hx]
 have HX := Lib.hid hx
 clear h hW0 hB h0 h1 hz ha hx
 go_enter Tryz.func21, Tryz.ntmps21
 go_wp2_with fail
 rw [← HW.out]
 refine (HM.out W0 HB.out).mono ?_
 rintro e w1 ⟨rfl, g1⟩
 have G1 := Lib.hid (zab HB.out g1)
 have N0 := Lib.hid (zac g1 H0.out)
 have N1 := Lib.hid (zac g1 H1.out)
 clear g1
 cases a
 ·
  have hX : Hid (x = -1) := by show x = -1; rw [HX.out]; exact zyp (fun hm => by have := HA.out; rw [decide_eq_true hm] at this; cases this) r
  go_wp2_with fail
  go_ret
  exact ⟨by rw [hX.out]; first | done | rfl, G1.out⟩
 ·
  have HMl := Lib.hid (of_decide_eq_true HA.out.symm)
  have hx := HX.out
  obtain ⟨c, hc⟩ : ∃ c, c = putR l r := ⟨_, rfl⟩
  obtain ⟨q, hq⟩ : ∃ q, q = decide (0 ≤ x) := ⟨_, rfl⟩
  have hlk := ybw HMl.out r
  rw [← hc, ← hx, ← hq] at hlk
  have HLK := Lib.hid hlk
  have HXF : Hid (q = false → -1 = x) := fun e => by
   have := ye8 (l := l) r
   rw [e] at hq
   have := of_decide_eq_false hq.symm
   omega
  have HXT : Hid (q = true → c = x) := fun e => by
   rw [e] at hq
   have := of_decide_eq_true hq.symm
   rw [hc]; unfold putR
   rw [if_pos (by omega)]; exact hx.symm
  clear hx hc hq hlk
  go_wp2_with fail
  have La := fun q : Wd w1.drew => yj6 N0.out q
  have Lb := fun q : Wd w1.drew => zbb (zar N1.out (zay r)) (by decide) q
  refine zaj [1] (by kernel_rfl) (by kernel_rfl) (by kernel_rfl) ?_
  repeat (refine zae rfl rfl _ zaf ?_; (first | go_big_quiet_step (fail) | quiet_step (fail)); refine wpQuiet_nil ?_)
  refine zan rfl rfl rfl ziw #[.agg (tr ⟨s⟩)] rfl ?_
  refine (z29 s l _ (zad (zab G1.out (zah (Below.refl _ _) 1)) HS.out) (by have := HMl.out.le; omega)).mono ?_
  rintro e u ⟨b, rfl, ho, g⟩
  refine ⟨_, rfl, g, ?_⟩
  simp only [Act.put, List.setIfInBounds_toArray, List.set_cons_zero, List.set_cons_succ]
  have Lc := fun q : Wd u => yf7 (zct q.h ho) HLK.out.1
  rw [HLK.out.2] at Lc
  have G := Lib.hid (zab (zab G1.out (zah (Below.refl _ _) 1)) g)
  clear g ho
  refine zae rfl rfl _ zaf ?_
  (first | go_big_quiet_step (fail) | quiet_step (fail))
  refine wpQuiet_nil ?_
  refine zae rfl rfl u (z4k 1 u (by simp) (by kernel_rfl)) ?_
  (first | go_big_quiet_step (fail) | quiet_step (fail))
  refine wpQuiet_nil ?_
  repeat (refine zae rfl rfl _ zaf ?_; (first | go_big_quiet_step (fail) | quiet_step (fail)); refine wpQuiet_nil ?_)
  refine za3 ?_
  cases q
  ·
   have hX : Hid (-1 = x) := HXF.out rfl
   go_wp2_with fail
   go_ret
   exact ⟨by rw [← hX.out]; first | done | rfl, G.out⟩
  ·
   have hX : Hid (c = x) := HXT.out rfl
   go_wp2_with fail
   go_ret
   exact ⟨by rw [← hX.out]; first | done | rfl, G.out⟩
end
theorem zhc (s : SlV) (l : List Nd) (i : Int) (w : World) (h : SlE Ene w (sv s) l) :
  Calls Tryz.prog 50 #[.agg (tr ⟨s⟩), .int .i64 i] w fun e w' => e = .returned (.bool (isT l i)) ∧ Below w.heap.size w w' := by
 have HM := Lib.hid (fun W (g : Below w.heap.size w W) => zfi s l W (zad g h))
 have hl := zbk h
 obtain ⟨p, n, cp⟩ := s
 dsimp only at hl
 obtain ⟨r, hr⟩ : ∃ r, r = decide (MayT l) := ⟨_, rfl⟩
 rw [← hr] at HM
 obtain ⟨x, hx⟩ : ∃ x, x = isT l i := ⟨_, rfl⟩
 rw [← hx]
 have HX : Hid (x = (r && (decide (0 ≤ i) && decide (i < (n : Int))))) := by rw [hx, hr]; unfold isT; rw [hl]; rfl
 obtain ⟨W0, hW0⟩ : ∃ W0, W0 = w.alloc (.cells (tr ⟨⟨p, n, cp⟩⟩) 24) := ⟨_, rfl⟩
 have HB : Hid (Below w.heap.size w W0) := by rw [hW0]; exact below1
 have M0 : Hid (W0.heap[w.heap.size]? = some (.cells (tr ⟨⟨p, n, cp⟩⟩) 24 (0, 0))) := by rw [hW0]; exact heap_alloc_last w _
 have HW := Lib.hid hW0
 clear hW0 h hl hr hx
 go_enter Tryz.func50, Tryz.ntmps50
 go_wp2_with fail
 rw [← HW.out]
 refine (HM.out W0 HB.out).mono ?_
 rintro e w1 ⟨rfl, g1⟩
 have G1 := Lib.hid (zab HB.out g1)
 obtain ⟨z0, z1, zl⟩ := zai (zac g1 M0.out)
 dsimp only at z0
 rw [za0] at z0
 cases r
 ·
  go_wp2_with fail
  go_ret
  exact ⟨by rw [HX.out]; rfl, G1.out⟩
 ·
  by_cases h0 : 0 ≤ i
  ·
   have t0 : decide (0 ≤ i) = true := decide_eq_true h0
   by_cases h1 : i < (n : Int)
   ·
    have t1 : decide (i < (n : Int)) = true := decide_eq_true h1
    have hX : Hid (x = true) := by show x = true; rw [HX.out, t0, t1]; rfl
    clear h0 h1
    go_wp2_with fail
    go_ret
    exact ⟨by rw [hX.out]; first | done | rfl, G1.out⟩
   ·
    have t1 : decide (i < (n : Int)) = false := decide_eq_false h1
    have hX : Hid (x = false) := by show x = false; rw [HX.out, t0, t1]; rfl
    clear h0 h1
    go_wp2_with fail
    go_ret
    exact ⟨by rw [hX.out]; first | done | rfl, G1.out⟩
  ·
   have t0 : decide (0 ≤ i) = false := decide_eq_false h0
   have hX : Hid (x = false) := by show x = false; rw [HX.out, t0]; rfl
   clear h0
   go_wp2_with fail
   go_ret
   exact ⟨by rw [hX.out]; first | done | rfl, G1.out⟩
def zow (l : List Nd) : Nat → Nat → List Nat
 | 0, i => [i]
 | f + 1, i => if i = 0 then [i] else i :: zow l f (up l i)
def zee (l : List Nd) (i : Nat) : List Nat := zow l i i
section
variable {l : List Nd}
theorem z1f (h : MayT l) : ∀ (k : Nat), k < l.length → ∀ f, k ≤ f → zow l f k = zow l k k := by
 intro k
 induction k using Nat.strongRecOn with
 | _ k ih =>
  intro hk f hf
  by_cases h0 : k = 0
  ·
   subst h0
   cases f with
   | zero => rfl
   | succ f => simp [zow]
  ·
   obtain ⟨_, hu, _⟩ := h.par (Nat.pos_of_ne_zero h0) hk
   obtain ⟨f', rfl⟩ : ∃ f', f = f' + 1 := ⟨f - 1, by omega⟩
   obtain ⟨k', hk'⟩ : ∃ k', k = k' + 1 := ⟨k - 1, by omega⟩
   have e1 := ih (up l k) hu (by omega) f' (by omega)
   have e2 := ih (up l k) hu (by omega) k' (by omega)
   rw [show zow l k k = zow l (k' + 1) k by rw [← hk']]
   simp only [zow]
   rw [e1, e2]
theorem z5z : zee l 0 = [0] := rfl
theorem z5y (h : MayT l) {k : Nat} (h0 : 0 < k) (hk : k < l.length) : zee l k = k :: zee l (up l k) := by
 obtain ⟨_, hu, _⟩ := h.par h0 hk
 obtain ⟨k', rfl⟩ : ∃ k', k = k' + 1 := ⟨k - 1, by omega⟩
 unfold zee
 rw [show zow l (k' + 1) (k' + 1) = if k' + 1 = 0 then [k' + 1] else (k' + 1) :: zow l k' (up l (k' + 1)) from rfl]
 rw [if_neg (Nat.succ_ne_zero _), z1f h (up l (k' + 1)) (by omega) k' (by omega)]
theorem ztv (h : MayT l) {k : Nat} (hk : k < l.length) : zee l k = k :: (if k = 0 then [] else zee l (up l k)) := by
 by_cases h0 : k = 0
 ·
  subst h0; rfl
 ·
  rw [if_neg h0, z5y h (Nat.pos_of_ne_zero h0) hk]
theorem zls (h : MayT l) (i : Nat) : ∀ k, k < l.length → (i ∈ zee l k ↔ zat l i k = true) := by
 intro k
 induction k using Nat.strongRecOn with
 | _ k ih =>
  intro hk
  by_cases h0 : k = 0
  ·
   subst h0
   rw [z5z, zcg, List.mem_singleton, decide_eq_true_iff]
  ·
   obtain ⟨_, hu, _⟩ := h.par (Nat.pos_of_ne_zero h0) hk
   rw [z5y h (Nat.pos_of_ne_zero h0) hk, zby h i (Nat.pos_of_ne_zero h0) hk, List.mem_cons, ih _ hu (by omega)]
theorem yf3 (h : MayT l) {k : Nat} (hk : k < l.length) {i : Nat} (hi : i ∈ zee l k) : i < l.length := by
 have := zhf h i k hk ((zls h i k hk).1 hi)
 omega
theorem yf2 (h : MayT l) (s : Nat) : ∀ k, k < l.length → ∀ (q r : List Nat) (x : Nat), zee l k = q ++ x :: r → (∀ y ∈ q, s < sl l y) → sl l x ≤ s → atT l k s = x := by
 intro k
 induction k using Nat.strongRecOn with
 | _ k ih =>
  intro hk q r x e hq hx
  rw [ztv h hk] at e
  cases q with
  | nil =>
   rw [List.nil_append] at e
   injection e with e1 _
   subst e1
   exact z3x h hk hx
  | cons y q =>
   rw [List.cons_append] at e
   injection e with e1 e2
   subst e1
   have h1 := hq k List.mem_cons_self
   by_cases h0 : k = 0
   ·
    rw [if_pos h0] at e2
    cases q <;> cases e2
   ·
    rw [if_neg h0] at e2
    obtain ⟨_, hu, _⟩ := h.par (Nat.pos_of_ne_zero h0) hk
    rw [z3z h s (Nat.pos_of_ne_zero h0) hk, if_neg (by omega)]
    exact ih _ hu (by omega) q r x e2 (fun z hz => hq z (List.mem_cons_of_mem _ hz)) hx
theorem ya5 (h : MayT l) (s : Nat) {k : Nat} (hk : k < l.length) (ha : ∀ y ∈ zee l k, s < sl l y) : atT l k s = -1 := by
 rcases z3y h s k hk with ⟨e, _⟩ | ⟨n, _, hn, hab, hs, _⟩
 ·
  exact e
 ·
  have := ha n ((zls h n k hk).2 hab)
  omega
end
section
open Go.Shelf
theorem zam {W : World} {B : Nat} {v : Value} {t : TypeId} (h : W.heap[B]? = some (.cells #[v] t (0, 0))) : W.cell? ⟨B, 0, none⟩ = some v ∧ W.frozen? ⟨B, 0, none⟩ = false := by
 constructor <;> simp [World.cell?, World.frozen?, h]
theorem zf6 {F : Fence} {n : Nat} {P : Program} {fn : Func} {tmps : Array Value} {R : Ending → World → Prop} {W : World} {D : Nat} {v : Value} (hK : W.heap[D]? = some (.deferred (some [])))
  (h : (results fn tmps).run P (W.putObj D (.deferred none)) = .ok v (W.putObj D (.deferred none)) ∧ R (.returned v) (W.putObj D (.deferred none))) : LeavesInM F n P fn tmps R [{ target := .collected D, args := #[] }] .returning W :=
 ⟨by simp, .inl ⟨D, _, rfl, run_takeDeferred hK, ⟨v, h.1, h.2⟩⟩⟩
theorem zir {W : World} {D : Nat} {a : Addr} {v : Value} (hK : W.heap[D]? = some (.deferred (some []))) (hc : W.cell? a = some v) : (W.putObj D (.deferred none)).cell? a = some v :=
 cell_kept hc (grownBy_putObj' W D (.deferred none)) (fun r e => by cases e; exact ⟨_, hK, rfl⟩)
theorem zcu {B D : Nat} {w W : World} (hK : W.heap[D]? = some (.deferred (some []))) (h : Below B w W) (hB : B ≤ D) : Below B w (W.putObj D (.deferred none)) :=
 h.grown (grownBy_putObj' W D (.deferred none)) (by have := (Array.getElem?_eq_some_iff.1 hK).1; omega) (fun k e => by cases e; exact hB)
theorem z64 {α : Type} {B : Nat} {W0 : World} (p : List α → Prop) (hB : W0.heap.size ≤ B) : OwnFrom B (fun pre W => p pre ∧ Below W0.heap.size W0 W) :=
 OwnFrom.and (fun _ _ _ _ h _ _ => h) (ownFrom_below (Nat.le_refl _) hB)
theorem zy9 {α : Type} {B : Nat} {w : World} (p : List α → Prop) (a : Addr) (v : List α → Value) (hB : w.heap.size ≤ B) : OwnFrom B (fun pre W => (p pre ∧ W.cell? a = some (v pre)) ∧ Below w.heap.size w W) :=
 OwnFrom.and (Own.from (fun _ _ _ _ hs hg hr => ⟨hs.1, cell_kept hs.2 hg hr⟩) _) (ownFrom_below (Nat.le_refl _) hB)
end
section
open Go.Shelf
attribute [local go_sem] Oper.semAt_some
theorem zzz (t : Tr) (i : Int) (w : World) :
  Calls Tryz.prog 51 #[.agg (tr t), .int .i64 i] w fun e w' => e = .returned (.func (.func 95) #[] #[.pointer (some ⟨w.heap.size + 1, 0, none⟩), .pointer (some ⟨w.heap.size, 0, none⟩)]) ∧ w' = (w.alloc (.cells (tr t) 24)).alloc (.cells #[.int .i64 i] 3) := by
 go_enter Tryz.func51, Tryz.ntmps51
 go_wp2_with fail
 go_ret
 exact ⟨rfl, rfl⟩
abbrev Ln (l : List Nd) (i : Nat) := { x : Nat // x ∈ zee l i }
theorem zp2 (F : Fence) (d : Nat) (hf : F.fn 95) (hro : F.round = none) (hd : 1 ≤ d) (bi bt b1 o1 n cp n₀ : Nat) (l : List Nd) (i : Nat) (w : World) (hm : MayT l) (hl : l.length = n) (hi : i < n)
  (hbi : w.cell? ⟨bi, 0, none⟩ = some (.int .i64 (i : Int))) (hbt : w.heap[bt]? = some (.cells (tr ⟨⟨some ⟨b1, o1, none⟩, n, cp⟩⟩) 24 (0, 0))) (hx : w.rangeAt b1 o1 (zaq Ene l))
  (h1 : bi < n₀) (h2 : bt < n₀) (h3 : b1 < n₀) (hn₀ : n₀ ≤ w.heap.size) :
  SeqStopsK F d Tryz.prog 95 #[.pointer (some ⟨bi, 0, none⟩), .pointer (some ⟨bt, 0, none⟩)] (fun x : Ln l i => #[Value.int .i64 (x.1 : Int)]) (Below n₀) (fun ys => ys.map Subtype.val = zee l i) (fun pre => pre.map Subtype.val <+: zee l i) (zee l i).length w := by
 intro lo J Jx W hW _ _ hY hJ0
 have HL := Lib.hid hl
 have HM := Lib.hid hm
 have HI := Lib.hid hi
 have HY := Lib.hid hY
 have HJ0 := Lib.hid hJ0
 have g0 := hW.mono hn₀
 have HC : Hid (∀ W', Below n₀ W W' → W'.cell? ⟨bi, 0, none⟩ = some (.int .i64 (i : Int))) := fun W' g => ((g0.trans g).cell (p := ⟨bi, 0, none⟩) h1).trans hbi
 have HT : Hid (∀ W', Below n₀ W W' → W'.heap[bt]? = some (.cells (tr ⟨⟨some ⟨b1, o1, none⟩, n, cp⟩⟩) 24 (0, 0))) := fun W' g => ((g0.trans g).block _ h2).trans hbt
 have HR : Hid (∀ W', Below n₀ W W' → W'.rangeAt b1 o1 (zaq Ene l)) := fun W' g j v hv => ((g0.trans g).cell (p := ⟨b1, o1 + j, none⟩) h3).trans (hx j v hv)
 have z00 := HC.out W (Below.refl _ _)
 clear hl hm hi hY hJ0 hbi hbt hx h1 h2 h3 hn₀ hW g0
 refine callsIn_of_wp Tryz.func95 rfl hf ?_ hro
 simp only [Tryz.ntmps95, List.size_toArray, List.length_cons, List.length_nil, Nat.reduceAdd, Nat.reduceSub, Array.replicate_succ, Array.replicate_zero, List.push_toArray, List.append_toArray, List.nil_append, List.cons_append]
 gi_wp2
 gi_loopw [4] (fun v wr => ∃ (pre : List (Ln l i)) (m : Nat), m ≤ n ∧ v = .int .i64 ((m : Int) - 1) ∧ zee l i = pre.map Subtype.val ++ (if m = 0 then [] else zee l (m - 1)) ∧ Below n₀ W wr ∧ J pre wr) (fun v _ => (intOf v + 1).toNat)
 case atStart => exact ⟨[], i + 1, HI.out, by rw [show ((i + 1 : Nat) : Int) - 1 = (i : Int) by omega], by rw [if_neg (Nat.succ_ne_zero _), Nat.add_sub_cancel, List.map_nil, List.nil_append], Below.refl _ _, HJ0.out⟩
 case round =>
  obtain ⟨pre, m, hmn, rfl, he, hg, hj⟩ := hrel
  have HE := Lib.hid he
  have HG := Lib.hid hg
  have HJ := Lib.hid hj
  have HMN := Lib.hid hmn
  clear he hg hj hmn
  by_cases h0 : m = 0
  ·
   subst h0
   have HE' : Hid (pre.map Subtype.val = zee l i) := by show _ = _; have := HE.out; rw [if_pos rfl, List.append_nil] at this; exact this.symm
   rw [show (((0 : Nat) : Int) - 1) = -1 from rfl]
   gi_wp2
   go_end0
   exact ⟨⟨_, rfl⟩, .inl ⟨pre, HE'.out, HJ.out⟩⟩
  ·
   obtain ⟨k, rfl⟩ : ∃ k, m = k + 1 := ⟨m - 1, by omega⟩
   rw [show (((k + 1 : Nat) : Int) - 1) = (k : Int) by omega]
   have HE' : Hid (zee l i = pre.map Subtype.val ++ zee l k) := HE.out.trans (by rw [if_neg h0, Nat.add_sub_cancel])
   have HK : Hid (k < n) := HMN.out
   have HC' : Hid (zee l k = k :: (if k = 0 then [] else zee l (up l k))) := ztv HM.out (by have := HL.out; have := HK.out; omega)
   have HIN : Hid (k ∈ zee l i) := by show k ∈ zee l i; rw [HE'.out, HC'.out]; simp
   have t0 : ((k : Int) != -1) = true := by simp
   have u1 : (k : Int) < (n : Int) := by have := HK.out; omega
   have u2 : (0 : Int) ≤ (k : Int) := by omega
   obtain ⟨fn, tmps, assign, body, hy, hR⟩ := HY.out pre ⟨k, HIN.out⟩ wr HJ.out (by rw [HE'.out, List.length_append, HC'.out]; simp)
   have HRR := Lib.hid hR
   clear h0 HE HMN hR
   gi_wp2
   refine HRR.out.mono ?_
   rintro e W3 (⟨rfl, hJ3, hk3⟩ | ⟨rfl, hJx3⟩)
   ·
    have HG3 := Lib.hid (HG.out.trans hk3)
    have HJ3 := Lib.hid hJ3
    obtain ⟨z0, z1, zl⟩ := zai (HT.out W3 HG3.out)
    dsimp only at z0
    rw [za0] at z0
    have y1 := zga (HR.out W3 HG3.out) (i := k) (by have := HL.out; have := HK.out; omega)
    clear hJ3 hk3
    by_cases hk : k = 0
    ·
     subst hk
     rw [HM.out.first, Nat.zero_mul, Nat.add_zero] at y1
     gi_wp2
     go_roundw
     case rel => exact ⟨pre ++ [⟨0, HIN.out⟩], 0, Nat.zero_le _, rfl, HE'.out.trans (by rw [HC'.out]; simp), HG3.out, HJ3.out⟩
     case measure => simp [intOf]
    ·
     obtain ⟨hp, hu, _⟩ := HM.out.par (k := k) (by omega) (by have := HL.out; have := HK.out; omega)
     rw [hp] at y1
     have HU := Lib.hid hu
     have HK0 := Lib.hid hk
     clear hp hu hk
     gi_wp2
     go_roundw
     case rel => exact ⟨pre ++ [⟨k, HIN.out⟩], up l k + 1, by have := HU.out; have := HK.out; omega, by rw [show ((up l k + 1 : Nat) : Int) - 1 = (up l k : Int) by omega], HE'.out.trans (by rw [HC'.out, if_neg HK0.out, if_neg (Nat.succ_ne_zero _), Nat.add_sub_cancel, List.map_append, List.append_assoc]; rfl), HG3.out, HJ3.out⟩
     case measure => have := HU.out; simp [intOf]; omega
   ·
    have HJ3 := Lib.hid hJx3
    clear hJx3
    gi_wp2
    refine bodyPost_ret (results_none rfl _ _ _) rfl ?_
    exact ⟨⟨_, rfl⟩, .inr ⟨pre ++ [⟨k, HIN.out⟩], ⟨if k = 0 then [] else zee l (up l k), (HE'.out.trans (by rw [HC'.out, List.map_append, List.append_assoc]; rfl)).symm⟩, HJ3.out⟩⟩
end
end Go.Proofs.YtkalofboioffiaaGreat
