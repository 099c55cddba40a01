/-
  Package tree: places, isBehind, May, walked.
-/
import Derived.Test.YtlhnjaeocoafnaaQ16
import Derived.Test.YtlhnjaeocoafnaaQ29
import Derived.Maps.OwnOps
namespace Go.Proofs.Ytlhnjaeocoafnaa
open Go.RowKit Go.Maps
set_option maxRecDepth 100000

theorem run_makeMapN {P : Program} {T k e : TypeId} (hu : P.underlying T = some (.map k e)) (n : Int) (w : World) : (Instr.makeMap T (some (.int .i64 n))).run P w = .ok (.map (some w.heap.size)) (w.alloc (.map #[] 0)) := by
  simp only [Instr.makeMap]
  simp [run_underlying hu, asInt]
  rfl
/-- What places answers. -/
def MapIs (D : DataW Unit) (n : Nat) (w : World) (e : Ending) (w' : World) : Prop := ∃ b, e = .returned (.map (some b)) ∧ w'.ownsMap Try.prog 30 (plainElem Try.prog 3) b n D ∧ Below w.heap.size w w'

set_option maxRecDepth 100000 in
set_option maxHeartbeats 4000000 in
theorem treePlaces_n (p : Option Addr) (n cp : Nat) (l : List Nd) (w : World) (h : SlE Ene w (.slice p n cp) l) (hl : l.length = n) (hn : n ≤ 1000) :
    Calls Try.prog 48 #[.agg (tr ⟨⟨p, n, cp⟩⟩)] w (MapIs (plD l n) n w) := by
  have hmm := run_makeMapN (P := Try.prog) Try.underlying75
  have HL := Lib.hid hl
  have HN := Lib.hid hn
  obtain ⟨W0, hW0⟩ : ∃ W0, W0 = w.alloc (.cells (tr ⟨⟨p, n, cp⟩⟩) 24) := ⟨_, rfl⟩
  have hB0 : Below w.heap.size w W0 := by rw [hW0]; exact below1
  have HS := Lib.hid (slE_keep hB0 h)
  have M0 : Hid (W0.heap[w.heap.size]? = some (.cells (tr ⟨⟨p, n, cp⟩⟩) 24 (0, 0))) := by rw [hW0]; exact heap_alloc_last w _
  have HW := Lib.hid hW0
  have HB := Lib.hid hB0
  have Hb0 : Hid (W0.heap.size = w.heap.size + 1) := by rw [hW0]; exact World.size_alloc _ _
  clear hW0 h hl hn hB0
  go_enter Try.func48, Try.ntmps48
  go_wp2_with fail
  go_loopw [13] (fun i wr => ∃ j : Nat, j ≤ n ∧ i = .int .i64 (j : Int) ∧ wr.ownsMap Try.prog 30 (plainElem Try.prog 3) (w.heap.size + 1) j (plD l j) ∧ Below W0.heap.size W0 wr) (fun i _ => n - (intOf i).toNat)
  case atStart => exact ⟨0, Nat.zero_le _, rfl, by rw [← HW.out, ← Hb0.out]; exact World.ownsMap_made _ _ _ _, by rw [← HW.out]; exact below1⟩
  case round =>
    obtain ⟨j, hj, rfl, hown, hb⟩ := hrel
    have HO := Lib.hid hown
    have HBB := Lib.hid hb
    obtain ⟨z0, z1, zl⟩ := tr_cells (blk_keep hb M0.out)
    dsimp only at z0
    rw [sv_mk] at z0
    clear hown hb
    by_cases hlt : j < n
    · have i0 : (0 : Int) ≤ (j : Int) := by omega
      have i1 : (j : Int) < (n : Int) := by omega
      have u1 : (j : Int) + 1 < 10000 := by have := HN.out; omega
      obtain ⟨b1, o1, rfl, q1, x1⟩ := slE_ptr HS.out (by have := HL.out; omega)
      have y1 := keep HBB.out (nds_ld x1 (i := j) (by have := HL.out; omega))
      have HXn : Hid (∃ x, x = nd l j) := ⟨_, rfl⟩
      clear x1 q1
      obtain ⟨x, hx⟩ := HXn.out
      rw [← hx] at y1
      have HXx := Lib.hid hx
      clear HXn hx
      go_wp2_with (at_mapUpdate; refine wpList_mapUpdate_own _ rfl _ _ _ 75 rfl 30 3 keyed_root Try.underlying75 (plainElem Try.prog 3) (w.heap.size + 1) j _ rfl (HO.out.alloc _) (by unfold maxLen; omega) _ _ _ rfl rfl (key_root x.root) _ [] (plainElem_int Try.underlying3 (WalkArith.wf_i64 (by omega))) ?_; intro w1 hown1 hgrow1)
      go_roundw
      case rel => exact ⟨j + 1, by omega, by go_num, by unfold plD; rw [← HXx.out]; exact hown1, (belowT HBB.out below1).grown hgrow1 (by have := HBB.out.size; simp; omega) (fun k hk => by cases hk; rw [Hb0.out]; exact Nat.le_refl _)⟩
      case measure => simp [intOf]; omega
    · obtain rfl : j = n := by omega
      clear hlt
      go_wp2_with fail
      go_ret
      exact ⟨_, rfl, HO.out, belowT HB.out HBB.out⟩
theorem treePlaces (s : SlV) (l : List Nd) (w : World) (h : SlE Ene w (sv s) l) (hn : l.length ≤ 1000) :
    Calls Try.prog 48 #[.agg (tr ⟨s⟩)] w (MapIs (plD l l.length) l.length w) := by
  have hs := sv_lenN h
  obtain ⟨p, n, cp⟩ := s
  dsimp only at hs
  subst hs
  exact treePlaces_n p _ cp l w h rfl hn
theorem enters_places : ∀ args w, (callFunc 48 args).run Try.prog w = .ok (.enter 48 args) w := entersE Try.func48 (by kernel_rfl) (by kernel_rfl)

/-! ### isBehind -/
def BehindT (l : List Nd) (i : Nat) : Prop := (i = 0 → (nd l i).parent = -1) ∧ (0 < i → 0 ≤ (nd l i).parent ∧ (nd l i).parent < i ∧ sl l (up l i) < sl l i)
instance (l : List Nd) (i : Nat) : Decidable (BehindT l i) := by unfold BehindT; exact inferInstance
set_option maxRecDepth 100000 in
set_option maxHeartbeats 4000000 in
theorem treeBehind (b1 o1 n cp : Nat) (l : List Nd) (i : Nat) (w : World) (hb : b1 < w.heap.size) (h : w.rangeAt b1 o1 (cellsE Ene l)) (hl : l.length = n) (hn : n ≤ 1000) (hi : i < n) :
    Calls Try.prog 47 #[.agg (tr ⟨⟨some ⟨b1, o1, none⟩, n, cp⟩⟩), .int .i64 (i : Int)] w fun e w' => e = .returned (.bool (decide (BehindT l i))) ∧ Below w.heap.size w w' := by
  have HB : Hid (Below w.heap.size w (w.alloc (.cells (tr ⟨⟨some ⟨b1, o1, none⟩, n, cp⟩⟩) 24))) := below1
  have X1 := Lib.hid h
  have HN := Lib.hid hn
  have HL := Lib.hid hl
  have HI := Lib.hid hi
  have i0 : (0 : Int) ≤ (i : Int) := by omega
  have i1 : (i : Int) < (n : Int) := by omega
  have y1 := nds_par h (i := i) (by omega)
  have y2 := nds_slot h (i := i) (by omega)
  obtain ⟨r, hr⟩ : ∃ r, r = decide (BehindT l i) := ⟨_, rfl⟩
  rw [← hr]
  have HR := Lib.hid hr
  obtain ⟨q, hq⟩ : ∃ q, q = (nd l i).parent := ⟨_, rfl⟩
  rw [← hq] at y1
  have HQ := Lib.hid hq
  clear h hn hl hr hq hi
  by_cases h0 : i = 0
  · subst h0
    have HR' : Hid (r = (q == -1)) := by
      show r = _
      rw [HR.out, Bool.eq_iff_iff, decide_eq_true_iff, beq_iff_eq, HQ.out]
      unfold BehindT
      exact ⟨fun h => h.1 rfl, fun h => ⟨fun _ => h, fun h => absurd h (Nat.lt_irrefl _)⟩⟩
    go_enter Try.func47, Try.ntmps47
    rw [Nat.zero_mul, Nat.add_zero] at y1
    go_wp2_with fail
    go_ret
    exact ⟨by rw [HR'.out]; first | done | rfl, HB.out⟩
  · have c0 : ((i : Int) == 0) = false := by simpa using h0
    have c0' : decide ((i : Int) = 0) = false := by simpa using h0
    have c0'' : decide (i = 0) = false := by simpa using h0
    have H0 : Hid (0 < i) := Nat.pos_of_ne_zero h0
    have HF : Hid (¬ (0 ≤ q ∧ q < i ∧ sl l q.toNat < sl l i) → r = false) := fun hno => by
      rw [HR.out, decide_eq_false_iff_not]
      intro hbt
      have := hbt.2 H0.out
      unfold up at this
      rw [← HQ.out] at this
      exact hno this
    clear h0
    by_cases hp : 0 ≤ q
    · have t1 : decide (0 ≤ q) = true := decide_eq_true hp
      by_cases hlt : q < (i : Int)
      · have t2 : decide (q < (i : Int)) = true := decide_eq_true hlt
        obtain ⟨m, rfl⟩ : ∃ m : Nat, q = m := ⟨q.toNat, by omega⟩
        have t1' : decide ((0 : Int) ≤ (m : Int)) = true := t1
        have t2' : decide (m < i) = true := by rw [decide_eq_true_iff]; omega
        have i2 : (m : Int) < (n : Int) := by have := HI.out; omega
        have i3 : (0 : Int) ≤ (m : Int) := by omega
        have y3 := nds_slot X1.out (i := m) (by have := HL.out; have := HI.out; omega)
        obtain ⟨v, hv⟩ : ∃ v, v = decide ((nd l m).slot.toNat < (nd l i).slot.toNat) := ⟨_, rfl⟩
        have HR' : Hid (r = v) := by
          show r = _
          rw [HR.out, hv]
          congr 1
          rw [eq_iff_iff]
          unfold BehindT up
          rw [← HQ.out, Int.toNat_natCast]
          exact ⟨fun h => (h.2 H0.out).2.2, fun h => ⟨fun e => by have := H0.out; omega, fun _ => ⟨by omega, by omega, h⟩⟩⟩
        have t3 : decide ((nd l m).slot.toNat < (nd l i).slot.toNat) = v := hv.symm
        have t3' : decide (((nd l m).slot.toNat : Int) < ((nd l i).slot.toNat : Int)) = v := by rw [hv]; congr 1; rw [eq_iff_iff]; omega
        clear hp hlt hv t1
        go_enter Try.func47, Try.ntmps47
        go_wp2_with fail
        go_quiet (fail)
        go_wp2_with fail
        go_ret
        exact ⟨by rw [HR'.out]; first | done | rfl, belowD HB.out _⟩
      · have t2 : decide (q < (i : Int)) = false := decide_eq_false hlt
        have hR : Hid (r = false) := HF.out (fun h => hlt h.2.1)
        clear hp hlt
        go_enter Try.func47, Try.ntmps47
        go_wp2_with fail
        go_quiet (fail)
        go_wp2_with fail
        go_ret
        exact ⟨by rw [hR.out]; first | done | rfl, belowD HB.out _⟩
    · have t1 : decide (0 ≤ q) = false := decide_eq_false hp
      have hR : Hid (r = false) := HF.out (fun h => hp h.1)
      clear hp
      go_enter Try.func47, Try.ntmps47
      go_wp2_with fail
      go_quiet (fail)
      go_wp2_with fail
      go_ret
      exact ⟨by rw [hR.out]; first | done | rfl, belowD HB.out _⟩
theorem enters_behind : ∀ args w, (callFunc 47 args).run Try.prog w = .ok (.enter 47 args) w := entersE Try.func47 (by kernel_rfl) (by kernel_rfl)

/-! ### May -/
theorem mayT_iff (l : List Nd) : MayT l ↔ 1 ≤ l.length ∧ l.length ≤ 12 ∧ (∀ i, i < l.length → sl l i ≤ 1099511627776 ∧ BehindT l i) ∧ Maps.size (plD l l.length) = l.length := by
  rw [plD_size]
  unfold MayT NodeOk BehindT
  exact ⟨fun h => ⟨h.1, h.2.1, fun i hi => ⟨(h.2.2 i hi).1, (h.2.2 i hi).2.1, (h.2.2 i hi).2.2.1⟩, fun i hi j hj => (h.2.2 i hi).2.2.2 j hj⟩,
    fun h => ⟨h.1, h.2.1, fun i hi => ⟨(h.2.2.1 i hi).1, (h.2.2.1 i hi).2.1, (h.2.2.1 i hi).2.2, fun j hj => h.2.2.2 i hi j hj⟩⟩⟩
set_option maxRecDepth 100000 in
set_option maxHeartbeats 4000000 in
theorem treeMay_far (p : Option Addr) (n cp : Nat) (w : World) (hn : n = 0 ∨ 12 < n) :
    Calls Try.prog 22 #[.agg (tr ⟨⟨p, n, cp⟩⟩)] w fun e w' => e = .returned (.bool false) ∧ Below w.heap.size w w' := by
  have HB : Hid (Below w.heap.size w (w.alloc (.cells (tr ⟨⟨p, n, cp⟩⟩) 24))) := below1
  rcases hn with rfl | hn
  · go_enter Try.func22, Try.ntmps22
    go_wp2_with fail
    go_ret
    exact ⟨rfl, HB.out⟩
  · have t0 : ((n : Int) == 0) = false := by simp; omega
    have t0' : decide (n = 0) = false := by simp; omega
    have t1 : decide ((12 : Int) < (n : Int)) = true := by rw [decide_eq_true_iff]; omega
    have t1' : decide (12 < n) = true := decide_eq_true hn
    clear hn
    go_enter Try.func22, Try.ntmps22
    go_wp2_with fail
    go_ret
    exact ⟨rfl, HB.out⟩
set_option maxRecDepth 100000 in
set_option maxHeartbeats 4000000 in
theorem treeMay_near (b1 o1 n cp : Nat) (l : List Nd) (w : World) (hb : b1 < w.heap.size) (h : w.rangeAt b1 o1 (cellsE Ene l)) (hcp : n ≤ cp) (hl : l.length = n) (h0 : 0 < n) (hn : n ≤ 12) :
    Calls Try.prog 22 #[.agg (tr ⟨⟨some ⟨b1, o1, none⟩, n, cp⟩⟩)] w fun e w' => e = .returned (.bool (decide (MayT l))) ∧ Below w.heap.size w w' := by
  obtain ⟨W0, hW0⟩ : ∃ W0, W0 = w.alloc (.cells (tr ⟨⟨some ⟨b1, o1, none⟩, n, cp⟩⟩) 24) := ⟨_, rfl⟩
  have hB0 : Below w.heap.size w W0 := by rw [hW0]; exact below1
  have M0 : Hid (W0.heap[w.heap.size]? = some (.cells (tr ⟨⟨some ⟨b1, o1, none⟩, n, cp⟩⟩) 24 (0, 0))) := by rw [hW0]; exact heap_alloc_last w _
  have X1 := Lib.hid (keepR hB0 h)
  have Q1 : Hid (b1 < W0.heap.size) := Nat.lt_of_lt_of_le hb hB0.size
  have HW := Lib.hid hW0
  have HB := Lib.hid hB0
  have HN := Lib.hid hn
  have HL := Lib.hid hl
  have HCP := Lib.hid hcp
  have H0 := Lib.hid h0
  obtain ⟨r, hr⟩ : ∃ r, r = decide (MayT l) := ⟨_, rfl⟩
  rw [← hr]
  have HR := Lib.hid hr
  have HNo : Hid (∀ i, i < n → ¬ (sl l i ≤ 1099511627776 ∧ BehindT l i) → r = false) := by
    intro i hi hno
    rw [hr, decide_eq_false_iff_not, mayT_iff]
    exact fun hm => hno (hm.2.2.1 i (by omega))
  have t0 : ((n : Int) == 0) = false := by simp; omega
  have t0' : decide (n = 0) = false := by simp; omega
  have t1 : decide ((12 : Int) < (n : Int)) = false := by rw [decide_eq_false_iff_not]; omega
  have t1' : decide (12 < n) = false := by rw [decide_eq_false_iff_not]; omega
  clear hW0 hB0 h hb hcp hl h0 hn hr
  go_enter Try.func22, Try.ntmps22
  go_wp2_with fail
  rw [← HW.out]
  clear t0 t0' t1 t1'
  go_loopw [17, 3] (fun i _ wr => ∃ j : Nat, j ≤ n ∧ i = .int .i64 (j : Int) ∧ (∀ k, k < j → sl l k ≤ 1099511627776 ∧ BehindT l k) ∧ Below W0.heap.size W0 wr) (fun i _ _ => n - (intOf i).toNat)
  case atStart => exact ⟨0, Nat.zero_le _, rfl, fun k hk => absurd hk (Nat.not_lt_zero _), Below.refl _ _⟩
  case round =>
    obtain ⟨j, hj, rfl, hx, hb⟩ := hrel
    have HX := Lib.hid hx
    have HBB := Lib.hid hb
    obtain ⟨z0, z1, zl⟩ := tr_cells (blk_keep hb M0.out)
    dsimp only at z0
    rw [sv_mk] at z0
    clear hx hb
    by_cases hlt : j < n
    · have i0 : (0 : Int) ≤ (j : Int) := by omega
      have i1 : (j : Int) < (n : Int) := by omega
      have u1 : (j : Int) + 1 < 10000 := by have := HN.out; omega
      have y2 := nds_slot (keepR HBB.out X1.out) (i := j) (by have := HL.out; omega)
      by_cases hs : 1099511627776 < (nd l j).slot.toNat
      · have t1 : decide ((1099511627776 : Int) < ((nd l j).slot.toNat : Int)) = true := by rw [decide_eq_true_iff]; omega
        have t1' : decide (1099511627776 < (nd l j).slot.toNat) = true := decide_eq_true hs
        have hR : Hid (r = false) := HNo.out j hlt (fun ho => by have := ho.1; unfold sl at this; omega)
        clear hs
        go_wp2_with fail
        go_ret
        exact ⟨by rw [hR.out]; first | done | rfl, belowT HB.out HBB.out⟩
      · have t1 : decide ((1099511627776 : Int) < ((nd l j).slot.toNat : Int)) = false := by rw [decide_eq_false_iff_not]; omega
        have t1' : decide (1099511627776 < (nd l j).slot.toNat) = false := decide_eq_false hs
        have HS : Hid (sl l j ≤ 1099511627776) := by show sl l j ≤ _; unfold sl; omega
        have HC := Lib.hid (treeBehind b1 o1 n cp l j wr (Nat.lt_of_lt_of_le Q1.out HBB.out.size) (keepR HBB.out X1.out) HL.out (by have := HN.out; omega) hlt)
        obtain ⟨c, hc⟩ : ∃ c, c = decide (BehindT l j) := ⟨_, rfl⟩
        rw [← hc] at HC
        have HCc := Lib.hid hc
        clear hs hc
        go_wp2_with fail
        refine HC.out.mono ?_
        rintro e w1 ⟨rfl, g1⟩
        have G1 := Lib.hid (belowT HBB.out g1)
        clear g1
        cases c
        · have hR : Hid (r = false) := HNo.out j hlt (fun ho => by have := HCc.out; rw [decide_eq_true ho.2] at this; cases this)
          go_wp2_with fail
          go_ret
          exact ⟨by rw [hR.out]; first | done | rfl, belowT HB.out G1.out⟩
        · go_wp2_with fail
          go_roundw
          case rel => exact ⟨j + 1, by omega, by go_num, fun k hk => by
            rcases Nat.lt_succ_iff_lt_or_eq.1 hk with h | rfl
            · exact HX.out k h
            · exact ⟨HS.out, of_decide_eq_true HCc.out.symm⟩, G1.out⟩
          case measure => simp [intOf]; omega
    · obtain rfl : j = n := by omega
      obtain ⟨m, hm⟩ : ∃ m, m = Maps.size (plD l j) := ⟨_, rfl⟩
      have hR : r = decide (m = j) := by
        rw [HR.out, hm]
        congr 1
        rw [eq_iff_iff, mayT_iff, HL.out]
        exact ⟨fun h => h.2.2.2, fun h => ⟨H0.out, HN.out, HX.out, h⟩⟩
      have s1 : ((m : Int) == (j : Int)) = r := by rw [hR, Bool.eq_iff_iff, beq_iff_eq, decide_eq_true_iff]; omega
      have s2 : decide (m = j) = r := hR.symm
      have HM := Lib.hid hm
      clear hlt hR hm
      go_wp2_with fail
      have Lc := fun q : Wd wr.drew => wd_tr (blk_keep HBB.out M0.out) q
      have Ld := fun q : Wd wr.drew => wd_cell z0 q
      refine wp_region_lex [1] (by kernel_rfl) (by kernel_rfl) (by kernel_rfl) ?_
      repeat (refine wpXL_quiet rfl rfl _ cls_begin ?_; (first | go_big_quiet_step (fail) | quiet_step (fail)); refine wpQuiet_nil ?_)
      refine wpXL_call rfl rfl rfl enters_places #[.agg (tr ⟨⟨some ⟨b1, o1, none⟩, j, cp⟩⟩)] rfl ?_
      refine (treePlaces_n (some ⟨b1, o1, none⟩) j cp l _ (slE_keep (belowT HBB.out (belowD (Below.refl _ _) 1)) ⟨some ⟨b1, o1, none⟩, cp, by rw [HL.out], by rw [HL.out]; exact HCP.out, .inr ⟨b1, o1, rfl, Q1.out, X1.out⟩⟩) HL.out (by have := HN.out; omega)).mono ?_
      rintro e u ⟨b, rfl, ho, g⟩
      refine ⟨_, rfl, g, ?_⟩
      simp only [Act.put, List.setIfInBounds_toArray, List.set_cons_zero, List.set_cons_succ]
      have Le := fun (q : Wd u) (ty : TypeId) => (ownsMap_keep q.h ho).len Try.underlying75 ty
      rw [← HM.out] at Le
      have G := Lib.hid (belowT (belowT HBB.out (belowD (Below.refl _ _) 1)) g)
      clear g ho
      refine wpXL_quiet rfl rfl u (cls_at 1 u (by simp) (by kernel_rfl)) ?_
      (first | go_big_quiet_step (fail) | quiet_step (fail))
      refine wpQuiet_nil ?_
      repeat (refine wpXL_quiet rfl rfl _ cls_begin ?_; (first | go_big_quiet_step (fail) | quiet_step (fail)); refine wpQuiet_nil ?_)
      refine wpXL_nil ?_
      go_wp2_with fail
      go_ret
      exact ⟨rfl, belowT HB.out G.out⟩
/-- May, at whatever list of nodes. -/
theorem treeMay (s : SlV) (l : List Nd) (w : World) (h : SlE Ene w (sv s) l) :
    Calls Try.prog 22 #[.agg (tr ⟨s⟩)] w fun e w' => e = .returned (.bool (decide (MayT l))) ∧ Below w.heap.size w w' := by
  have hs := sv_lenN h
  obtain ⟨p, n, cp⟩ := s
  dsimp only at hs
  by_cases hf : n = 0 ∨ 12 < n
  · have e : decide (MayT l) = false := by
      rw [decide_eq_false_iff_not]
      intro hm
      have := hm.1
      have := hm.2.1
      omega
    rw [e]
    exact treeMay_far p n cp w hf
  · obtain ⟨b, o, c, e1, hc, q, x⟩ := slE_ne h (by omega)
    unfold sv at e1
    injection e1 with e2 e4 e3
    dsimp only at e2 e3
    subst e2 e3
    exact treeMay_near b o n cp l w q x (by omega) hs (by omega) (by omega)
theorem enters_may06 : ∀ args w, (callFunc 22 args).run Try.prog w = .ok (.enter 22 args) w := entersE Try.func22 (by kernel_rfl) (by kernel_rfl)
end Go.Proofs.Ytlhnjaeocoafnaa
