/-
  Package skip: Deep; nearest, whatever function it is handed.
-/
import Derived.Test.YtnmljjmaejmlfaaP07Climb
import Derived.Test.YtnmljjmaejmlfaaP07Table
import Derived.Test.YtnmljjmaejmlfaaLeave
namespace Go.Proofs.Ytnmljjmaejmlfaa
open Go.RowKit

set_option maxRecDepth 100000 in
/-- The function that all pass. -/
theorem skipDeep1 (x : Int) (w : World) : Calls Try.prog 30 #[.int .i64 x] w fun e w' => e = .returned (.bool true) ∧ Below w.heap.size w w' := by
  go_enter Try.func30, Try.ntmps30
  go_wp2_with fail
  go_ret
  exact ⟨rfl, Below.refl _ _⟩
theorem enters_deep1 : ∀ args w, (callFunc 30 args).run Try.prog w = .ok (.enter 30 args) w := entersE Try.func30 (by kernel_rfl) (by kernel_rfl)

theorem tab_is (l : List Nd) (h : MayT l) : tabT l = tabUp l l.length := by unfold tabT; rw [if_pos h]
/-- What isPlace answers of a table. -/
theorem place_tab (l : List Nd) (i : Int) : (decide (0 ≤ i) && decide (i < ((tabT l).length : Int))) = isT l i := by
  rw [Bool.eq_iff_iff, isT_iff, Bool.and_eq_true, decide_eq_true_iff, decide_eq_true_iff]
  by_cases h : MayT l
  · rw [tab_len h]
    exact ⟨fun e => ⟨h, e⟩, fun e => e.2⟩
  · unfold tabT
    rw [if_neg h]
    exact ⟨fun e => by have := e.1; have := e.2; simp at this; omega, fun e => absurd e.1 h⟩

set_option maxRecDepth 100000 in
set_option maxHeartbeats 4000000 in
theorem skipDeep (s : SlV) (l : List Nd) (i : Int) (w : World) (h : SlE Ene w (sv s) l) :
    Calls Try.prog 15 #[.agg (tr ⟨s⟩), .int .i64 i] w fun e w' => e = .returned (.int .i64 (deepZ l i)) ∧ Below w.heap.size w w' := by
  have HT := Lib.hid (fun W (g : Below w.heap.size w W) => skipTable s l W (slE_keep g h))
  obtain ⟨W0, hW0⟩ : ∃ W0, W0 = w.alloc (.cells (tr ⟨s⟩) 24) := ⟨_, rfl⟩
  have HB : Hid (Below w.heap.size w W0) := by rw [hW0]; exact below1
  have HW := Lib.hid hW0
  obtain ⟨res, hres⟩ : ∃ res, res = deepZ l i := ⟨_, rfl⟩
  rw [← hres]
  have HR := Lib.hid hres
  clear hW0 h hres
  go_enter Try.func15, Try.ntmps15
  go_wp2_with fail
  rw [← HW.out]
  refine (HT.out W0 HB.out).mono ?_
  rintro e w1 ⟨v, rfl, ho, g1⟩
  have G1 := Lib.hid (belowT HB.out g1)
  obtain ⟨pv, cv, rfl⟩ := ownE_len ho rfl
  have HO := Lib.hid ho
  have HPl := Lib.hid (skipPlace pv (tabT l).length cv i w1)
  rw [place_tab] at HPl
  obtain ⟨a, ha⟩ : ∃ a, a = isT l i := ⟨_, rfl⟩
  rw [← ha] at HPl
  have HA := Lib.hid ha
  obtain ⟨n, hn⟩ : ∃ n, n = (tabT l).length := ⟨_, rfl⟩
  rw [← hn] at HPl
  rw [← hn]
  have HN := Lib.hid hn
  clear ho g1 ha hn
  go_wp2_with fail
  refine HPl.out.mono ?_
  rintro e w2 ⟨rfl, g2⟩
  have G2 := Lib.hid (belowT G1.out g2)
  have HG2 := Lib.hid g2
  clear g2 HPl
  cases a
  · have hX : Hid (res = -1) := by show _ = _; rw [HR.out]; unfold deepZ; rw [if_neg (by rw [← HA.out]; exact Bool.false_ne_true)]
    go_wp2_with fail
    go_ret
    exact ⟨by rw [hX.out]; first | done | rfl, G2.out⟩
  · obtain ⟨hm, hi0, hi1⟩ := isT_iff.1 HA.out.symm
    obtain ⟨i', rfl⟩ : ∃ i' : Nat, i = i' := ⟨i.toNat, by omega⟩
    have hnl : l.length = n := by rw [HN.out, tab_len hm]
    have HX : Hid (res = (deepT l i' : Int)) := by show _ = _; rw [HR.out, deepZ_nat hm (by omega)]
    have HS2 : SlE Eqd w2 (.slice pv n cv) (tabUp l n) := by
      have := slE_keep HG2.out (ownE_slE HO.out)
      rw [tab_is l hm, hnl] at this
      rwa [tabUp_len] at this
    have HCl := Lib.hid (skipClimb 30 #[] enters_deep1 pv n cv l i' (deepT l i') w2 HS2 hnl hm (by omega) (Nat.le_refl _) (fun m y W h1 h2 _ _ => by rw [decide_eq_true h2]; exact skipDeep1 _ _))
    clear hm hi0 hi1 hnl HS2
    go_wp2_with fail
    refine HCl.out.mono ?_
    rintro e w3 ⟨x, rfl, _, _, g3⟩
    have G3 := Lib.hid (belowT G2.out g3)
    clear g3
    go_wp2_with fail
    go_ret
    exact ⟨by rw [HX.out]; first | done | rfl, G3.out⟩
theorem enters_skipDeep : ∀ args w, (callFunc 15 args).run Try.prog w = .ok (.enter 15 args) w := entersE Try.func15 (by kernel_rfl) (by kernel_rfl)

/-! ### nearest -/
set_option maxRecDepth 100000 in
set_option maxHeartbeats 1000000 in
theorem skipNear1 (g : Nat) (lb : Array Value) (eg : ∀ args w, (callFunc g args).run Try.prog w = .ok (.enter g args) w) (x : Int) (b : Nat) (r : Bool) (w : World) (hb : w.cell? ⟨b, 0, none⟩ = some (.func (.func g) #[] lb))
    (hc : Calls Try.prog g (#[.int .i64 x] ++ lb) w fun e w' => e = .returned (.bool r) ∧ Below w.heap.size w w') :
    Calls Try.prog 40 #[.int .i64 x, .pointer (some ⟨b, 0, none⟩)] w fun e w' => e = .returned (.bool (!r)) ∧ Below w.heap.size w w' := by
  have HC := Lib.hid hc
  clear hc
  go_enter Try.func40, Try.ntmps40
  go_wp2_with fail
  refine HC.out.mono ?_
  rintro e w1 ⟨rfl, g1⟩
  go_wp2_with fail
  go_ret
  exact ⟨by cases r <;> rfl, g1⟩
theorem enters_near1 : ∀ args w, (callFunc 40 args).run Try.prog w = .ok (.enter 40 args) w := entersE Try.func40 (by kernel_rfl) (by kernel_rfl)

set_option maxRecDepth 100000 in
set_option maxHeartbeats 4000000 in
theorem skipNearest_no (g : Nat) (lb : Array Value) (s : SlV) (l : List Nd) (i : Int) (w : World) (h : SlE Ene w (sv s) l) (hk : isT l i = false) :
    Calls Try.prog 31 #[.agg (tr ⟨s⟩), .int .i64 i, .func (.func g) #[] lb] w fun e w' => e = .returned (.int .i64 (-1)) ∧ Below w.heap.size w w' := by
  have HT := Lib.hid (fun W (g : Below w.heap.size w W) => skipTable s l W (slE_keep g h))
  obtain ⟨W0, hW0⟩ : ∃ W0, W0 = (w.alloc (.cells (tr ⟨s⟩) 24)).alloc (.cells #[.func (.func g) #[] lb] 49) := ⟨_, rfl⟩
  obtain ⟨hB, h0, h1, hz⟩ := heap2 w _ _ _ _ W0 hW0
  have HB := Lib.hid hB
  have HW := Lib.hid hW0
  have HK := Lib.hid hk
  clear hW0 h hB h0 h1 hz hk
  go_enter Try.func31, Try.ntmps31
  go_wp2_with fail
  rw [← HW.out]
  refine (HT.out W0 HB.out).mono ?_
  rintro e w1 ⟨v, rfl, ho, g1⟩
  have G1 := Lib.hid (belowT HB.out g1)
  obtain ⟨pv, cv, rfl⟩ := ownE_len ho rfl
  have HPl := Lib.hid (skipPlace pv (tabT l).length cv i w1)
  rw [place_tab, HK.out] at HPl
  obtain ⟨n, hn⟩ : ∃ n, n = (tabT l).length := ⟨_, rfl⟩
  rw [← hn] at HPl
  rw [← hn]
  clear ho g1 hn
  go_wp2_with fail
  refine HPl.out.mono ?_
  rintro e w2 ⟨rfl, g2⟩
  have G2 := Lib.hid (belowT G1.out g2)
  clear g2 HPl
  go_wp2_with fail
  go_ret
  exact ⟨rfl, G2.out⟩

set_option maxRecDepth 100000 in
set_option maxHeartbeats 4000000 in
theorem skipNearest_yes (g : Nat) (lb : Array Value) (eg : ∀ args w, (callFunc g args).run Try.prog w = .ok (.enter g args) w) (s : SlV) (l : List Nd) (i : Nat) (S : Nat → Bool) (R : Int) (w : World) (h : SlE Ene w (sv s) l) (hm : MayT l) (hi : i < l.length)
    (hmono : ∀ m k, k < l.length → aboveT l m k = true → S k = true → S m = true) (hR : NearSpec l S i R)
    (hso : ∀ (x : Nat) (W : World), x < l.length → Below w.heap.size w W → Calls Try.prog g (#[.int .i64 (x : Int)] ++ lb) W fun e W' => e = .returned (.bool (S x)) ∧ Below W.heap.size W W') :
    Calls Try.prog 31 #[.agg (tr ⟨s⟩), .int .i64 (i : Int), .func (.func g) #[] lb] w fun e w' => e = .returned (.int .i64 R) ∧ Below w.heap.size w w' := by
  have HT := Lib.hid (fun W (g : Below w.heap.size w W) => skipTable s l W (slE_keep g h))
  obtain ⟨W0, hW0⟩ : ∃ W0, W0 = (w.alloc (.cells (tr ⟨s⟩) 24)).alloc (.cells #[.func (.func g) #[] lb] 49) := ⟨_, rfl⟩
  obtain ⟨hB, h0, h1, hz⟩ := heap2 w _ _ _ _ W0 hW0
  have HB := Lib.hid hB
  have H1 := Lib.hid h1
  have HW := Lib.hid hW0
  have HM := Lib.hid hm
  have HI := Lib.hid hi
  have HMO := Lib.hid hmono
  have HRR := Lib.hid hR
  have HSO := Lib.hid hso
  clear hW0 h hB h0 h1 hz hm hi hmono hR hso
  go_enter Try.func31, Try.ntmps31
  go_wp2_with fail
  rw [← HW.out]
  refine (HT.out W0 HB.out).mono ?_
  rintro e w1 ⟨v, rfl, ho, g1⟩
  have G1 := Lib.hid (belowT HB.out g1)
  obtain ⟨pv, cv, rfl⟩ := ownE_len ho (tab_len HM.out)
  have HO := Lib.hid (ownE_slE ho)
  rw [tab_is l HM.out] at HO
  obtain ⟨n, hn⟩ : ∃ n, n = l.length := ⟨_, rfl⟩
  have HPl := Lib.hid (skipPlace pv n cv (i : Int) w1)
  rw [decide_eq_true (show (0 : Int) ≤ (i : Int) by omega), decide_eq_true (show (i : Int) < (n : Int) by have := HI.out; omega), Bool.and_true] at HPl
  rw [← hn] at HO ⊢
  have HN : Hid (l.length = n) := hn.symm
  have K1 := Lib.hid (blk_keep g1 H1.out)
  clear ho g1 hn
  go_wp2_with fail
  refine HPl.out.mono ?_
  rintro e w2 ⟨rfl, g2⟩
  have G2 := Lib.hid (belowT G1.out g2)
  have K2 := Lib.hid (blk_keep g2 K1.out)
  have O2 := Lib.hid (slE_keep g2 HO.out)
  clear g2 HPl
  obtain ⟨c2, _⟩ := cell_of_box K2.out
  have HQ := Lib.hid (HSO.out i w2 HI.out G2.out)
  obtain ⟨r, hr⟩ : ∃ r, r = S i := ⟨_, rfl⟩
  rw [← hr] at HQ
  have HR := Lib.hid hr
  clear hr
  go_wp2_with fail
  refine HQ.out.mono ?_
  rintro e w3 ⟨rfl, g3⟩
  have G3 := Lib.hid (belowT G2.out g3)
  have K3 := Lib.hid (blk_keep g3 K2.out)
  have O3 := Lib.hid (slE_keep g3 O2.out)
  clear g3 c2
  cases r
  · obtain ⟨D, hD, hall, x, hx, hxl, hnx⟩ := near_climb HM.out HMO.out i HI.out HR.out.symm
    have HX : Hid (R = (nd l x).parent) := near_unique HM.out HRR.out hnx
    have HU := Lib.hid hx
    have HXl := Lib.hid hxl
    have HCl := Lib.hid (skipClimb 40 #[.pointer (some ⟨w.heap.size + 1, 0, none⟩)] enters_near1 pv n cv l i D w3 O3.out HN.out HM.out (by have := HI.out; have := HN.out; omega) hD (fun m y W h1 h2 hy hW => by
      have hyl : y < l.length := by
        rcases up_spec HM.out m i HI.out with ⟨_, z, ez, hz, _⟩ | ⟨hd, _⟩
        · omega
        · omega
      have := skipNear1 g lb eg (y : Int) (w.heap.size + 1) (S y) W (cell_of_box (blk_keep hW K3.out)).1 (HSO.out y W hyl (belowT G3.out hW))
      rw [hall m h1 h2 y hy] at this
      rwa [show (!decide (D < m)) = decide (m ≤ D) by rw [Bool.eq_iff_iff, Bool.not_eq_true', decide_eq_false_iff_not, decide_eq_true_iff]; omega] at this))
    clear hD hall hx hxl hnx
    go_wp2_with fail
    refine HCl.out.mono ?_
    rintro e w4 ⟨x', rfl, hx', hxn, g4⟩
    obtain rfl : x = x' := by have := HU.out; omega
    have G4 := Lib.hid (belowT G3.out g4)
    obtain ⟨b1, o1, c1, e1, _, hb1, x1⟩ := slE_ne (slE_keep g4 O3.out) (by rw [tabUp_len]; omega)
    have e1' : pv = some ⟨b1, o1, none⟩ := by injection e1
    subst e1'
    have y1 := qd_cell x1 (tabUp_at l hxn) (j := 0) (by omega)
    rw [qat_leap l x (by omega), leap_first HM.out HXl.out, Nat.add_zero] at y1
    have i0 : (0 : Int) ≤ (x : Int) := by omega
    have i1 : (x : Int) < (n : Int) := by omega
    clear g4 hx' hxn e1 x1 hb1
    go_wp2_with fail
    go_ret
    exact ⟨by rw [HX.out]; first | done | rfl, G4.out⟩
  · have HX : Hid (R = (i : Int)) := near_unique HM.out HRR.out (near_here HM.out HI.out HR.out.symm)
    go_wp2_with fail
    go_ret
    exact ⟨by rw [HX.out]; first | done | rfl, G3.out⟩
theorem enters_nearest : ∀ args w, (callFunc 31 args).run Try.prog w = .ok (.enter 31 args) w := entersE Try.func31 (by kernel_rfl) (by kernel_rfl)
end Go.Proofs.Ytnmljjmaejmlfaa
