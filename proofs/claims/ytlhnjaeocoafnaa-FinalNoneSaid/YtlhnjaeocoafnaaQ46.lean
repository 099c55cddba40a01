/-
  Package link: byTarget, and slices.SortFunc by it.
  Package link: isTwice, rules, Clash, walked.
-/
import Derived.Test.YtlhnjaeocoafnaaQ36
import Derived.Test.YtlhnjaeocoafnaaQ45
import Derived.Test.YtlhnjaeocoafnaaShelf
namespace Go.Proofs.Ytlhnjaeocoafnaa
open Go.RowKit
set_option maxRecDepth 100000

theorem isNaNU (x : Int) (w : World) : Calls Try.prog 102 #[.int .u64 x] w fun e w' => e = .returned (.bool false) ∧ w' = w := by
  go_enter Try.func102, Try.ntmps102
  go_wp2_with fail
  go_ret
  exact ⟨by simp, rfl⟩
def cmpN (a b : Nat) : Int := if a < b then -1 else if b < a then 1 else 0
set_option maxRecDepth 100000 in
set_option maxHeartbeats 4000000 in
theorem compareU (a b : Nat) (w : World) : Calls Try.prog 80 #[.int .u64 (a : Int), .int .u64 (b : Int)] w fun e w' => e = .returned (.int .i64 (cmpN a b)) ∧ w' = w := by
  have HA := Lib.hid (isNaNU (a : Int) w)
  have HB := Lib.hid (isNaNU (b : Int) w)
  obtain ⟨r, hr⟩ : ∃ r, r = cmpN a b := ⟨_, rfl⟩
  rw [← hr]
  have HR := Lib.hid hr
  clear hr
  by_cases h1 : a < b
  · have t1 : decide ((a : Int) < (b : Int)) = true := decide_eq_true (by omega)
    have t1' : decide (a < b) = true := decide_eq_true h1
    have hR : Hid (r = -1) := by show r = _; rw [HR.out]; exact if_pos h1
    clear h1
    go_enter Try.func80, Try.ntmps80
    go_wp2_with fail
    refine HA.out.mono ?_
    rintro e w' ⟨rfl, rfl⟩
    go_wp2_with fail
    refine HB.out.mono ?_
    rintro e w' ⟨rfl, rfl⟩
    go_wp2_with fail
    go_ret
    exact ⟨by rw [hR.out]; rfl, rfl⟩
  · have t1 : decide ((a : Int) < (b : Int)) = false := decide_eq_false (by omega)
    have t1' : decide (a < b) = false := decide_eq_false h1
    by_cases h2 : b < a
    · have t2 : decide ((b : Int) < (a : Int)) = true := decide_eq_true (by omega)
      have t2' : decide (b < a) = true := decide_eq_true h2
      have hR : Hid (r = 1) := by show r = _; rw [HR.out]; unfold cmpN; rw [if_neg h1, if_pos h2]
      clear h1 h2
      go_enter Try.func80, Try.ntmps80
      go_wp2_with fail
      refine HA.out.mono ?_
      rintro e w' ⟨rfl, rfl⟩
      go_wp2_with fail
      refine HB.out.mono ?_
      rintro e w' ⟨rfl, rfl⟩
      go_wp2_with fail
      go_ret
      exact ⟨by rw [hR.out]; rfl, rfl⟩
    · have t2 : decide ((b : Int) < (a : Int)) = false := decide_eq_false (by omega)
      have t2' : decide (b < a) = false := decide_eq_false h2
      have hR : Hid (r = 0) := by show r = _; rw [HR.out]; unfold cmpN; rw [if_neg h1, if_neg h2]
      clear h1 h2
      go_enter Try.func80, Try.ntmps80
      go_wp2_with fail
      refine HA.out.mono ?_
      rintro e w' ⟨rfl, rfl⟩
      go_wp2_with fail
      refine HB.out.mono ?_
      rintro e w' ⟨rfl, rfl⟩
      go_wp2_with fail
      go_ret
      exact ⟨by rw [hR.out]; rfl, rfl⟩
def cmpT (x y : Lk) : Int := cmpN x.t.epoch.toNat y.t.epoch.toNat
set_option maxRecDepth 100000 in
set_option maxHeartbeats 4000000 in
theorem byTarget_any (a b : Lk) (w : World) :
    Calls Try.prog 57 #[.agg (lk a), .agg (lk b)] w fun e w' => e = .returned (.int .i64 (cmpT a b)) ∧ ∃ n os, w' = Sort.grow (w.drewN n) os := by
  obtain ⟨W0, hW0⟩ : ∃ W0, W0 = (w.alloc (.cells (lk a) 63)).alloc (.cells (lk b) 63) := ⟨_, rfl⟩
  obtain ⟨_, A, B⟩ := lk_two w a b W0 hW0
  have HW := Lib.hid hW0
  have a1 := A.te
  have b1 := B.te
  have HC := Lib.hid (compareU a.t.epoch.toNat b.t.epoch.toNat W0)
  have hr : cmpT a b = cmpN a.t.epoch.toNat b.t.epoch.toNat := rfl
  rw [hr]
  generalize cmpN a.t.epoch.toNat b.t.epoch.toNat = r at *
  clear hW0 A B hr
  go_enter Try.func57, Try.ntmps57
  go_upto_region 1 with fail
  rw [← HW.out]
  go_wp2_with fail
  refine HC.out.mono ?_
  rintro e w' ⟨rfl, rfl⟩
  clear a1 b1
  go_wp2_with fail
  go_ret
  exact ⟨rfl, 0, _, by rw [HW.out, Sort.alloc_eq_grow, Sort.alloc_eq_grow, Sort.grow_grow]; rfl⟩

/-! ### the sort -/
instance : Inhabited Lk := ⟨⟨zcc, zcc, 0⟩⟩
theorem lkL_arr (x : Lk) : (lkL x).toArray = lk x := Array.toList_inj.1 (by rw [lk_list])
theorem ltT (x y : Lk) : ltOf cmpT x y = decide (x.t.epoch.toNat < y.t.epoch.toNat) := by
  unfold ltOf cmpT cmpN
  by_cases h1 : x.t.epoch.toNat < y.t.epoch.toNat
  · rw [if_pos h1, decide_eq_true h1]; rfl
  · rw [if_neg h1, decide_eq_false h1]
    split <;> rfl
theorem swoT : Sort.SWO (ltOf cmpT) where
  irrefl x := by rw [ltT]; simp
  trans x y z h1 h2 := by rw [ltT] at *; simp at *; omega
  ntrans x y z h1 h2 := by rw [ltT] at *; simp at *; omega
theorem cmpTarget (blk off size : Nat) (w : World) : CmpLays Try.prog 57 #[] lkL 67 cmpT blk off size w := fun _ _ _ _ x y => by
  rw [lkL_arr, lkL_arr]; exact byTarget_any x y _
theorem entersTarget : ∀ args w, (callFunc 57 args).run Try.prog w = .ok (.enter 57 args) w := enters_of Try.func57 (by kernel_rfl) rfl
theorem lkD (d : Array Lk) (i : Nat) : d[i]! = lkAt d.toList i := by
  unfold lkAt
  rw [List.getD_eq_getElem?_getD, Array.getElem?_toList]
  by_cases h : i < d.size
  · rw [getElem!_pos d i h]; simp [h]
  · rw [getElem!_neg d i h]; simp [h]; rfl
theorem flatK_get (d : Array Lk) (t : Nat) (h : t < d.size * 67) : some ((Sort.flatK lkL 67 d)[t]!) = (cellsE Elk d.toList)[t]? := by
  rw [Sort.get_flatK lkL 67 d t h, lkD]
  have hi : t / 67 < d.toList.length := by rw [Array.length_toList]; omega
  have hc : t % 67 < 67 := Nat.mod_lt _ (by decide)
  have h1 := cellsE_get Elk d.toList (t / 67) (t % 67) hi hc
  rw [show t / 67 * Elk.n + t % 67 = t from by show t / 67 * 67 + t % 67 = t; omega] at h1
  rw [h1, lkAt_in hi]
  have h2 : t % 67 < (lkL d.toList[t / 67]).length := by rw [lk_len]; exact hc
  show _ = (lkL d.toList[t / 67])[t % 67]?
  rw [List.getElem!_eq_getElem?_getD, List.getElem?_eq_getElem h2]; rfl
theorem holdsT {w : World} {g : Nat} {l : List Lk} (hr : w.rangeAt g 0 (cellsE Elk l)) (hf : ∀ k, w.frozen? ⟨g, k, none⟩ = false) : Sort.HoldsK lkL 67 w g 0 l.toArray := by
  intro j hj
  have hj' : j < l.toArray.size * 67 := by simpa [Sort.size_flatK] using hj
  refine ⟨?_, hf _⟩
  exact hr j _ (flatK_get l.toArray j hj').symm
theorem rangeT {w : World} {g : Nat} {d : Array Lk} (h : Sort.HoldsK lkL 67 w g 0 d) : w.rangeAt g 0 (cellsE Elk d.toList) := by
  intro j v hv
  have hj : j < d.size * 67 := by
    have := (List.getElem?_eq_some_iff.1 hv).1
    rw [cellsE_length, Array.length_toList] at this
    exact this
  have h1 := (h j (by rw [Sort.size_flatK]; exact hj)).1
  rw [← flatK_get d j hj] at hv
  injection hv with hv
  rw [← hv]; exact h1
theorem below_sortT {B : Nat} {w : World} {g n : Nat} {d : Array Lk} {os : Array Obj} (hg : B ≤ g) (hB : B ≤ w.heap.size) : Below B w (sortWorldK lkL 67 w g 0 n d os) := by
  refine ⟨rfl, rfl, rfl, size_sortWorldK_c lkL 67 w g 0 n d os, fun k hk => ?_⟩
  unfold sortWorldK
  rw [Sort.heap_grow_old _ _ (by rw [show (Sort.putRowK lkL 67 (Sort.ahead w n) g 0 d).heap.size = w.heap.size from Sort.size_putRow _ _ _ _ _]; omega)]
  show (Sort.mapBlock (Sort.ahead w n) g _).heap[k]? = _
  simp only [Sort.mapBlock, Array.getElem?_modify]
  rw [if_neg (by omega)]
  rfl
theorem rise_of {d d' : Array Lk} (hp : Sort.PermIn 0 d.size d d') (hs : Sort.SortedIn (ltOf cmpT) 0 d.size d') : d'.size = d.size ∧ Rise d'.toList ∧ ∀ x, x ∈ d'.toList ↔ x ∈ d.toList := by
  obtain ⟨h1, _, h3⟩ := hp
  refine ⟨h1, fun i k hik hk => ?_, fun x => ?_⟩
  · rw [Array.length_toList, h1] at hk
    rcases Nat.lt_or_ge i k with h | h
    · have := hs i k (Nat.zero_le _) h hk
      rw [ltT, lkD, lkD, decide_eq_false_iff_not] at this
      omega
    · obtain rfl : i = k := by omega
      exact Nat.le_refl _
  · have e1 : d'.extract 0 d.size = d' := by rw [← h1]; simp
    have e2 : d.extract 0 d.size = d := by simp
    rw [e1, e2] at h3
    exact h3.mem_iff
/-- Links in a row of the call's own, by rising targets' epochs. -/
theorem sortLinks (v : Value) (base : Nat) (l : List Lk) (W : World) (h : OwnE Elk W base v l) (hn : l.length ≤ 1000) (hbs : base ≤ W.heap.size) :
    Calls Try.prog 56 #[v, .func (.func 57) #[] #[]] W fun e w' => e = .returned (.tuple #[]) ∧ ∃ l' : List Lk, l'.length = l.length ∧ Rise l' ∧ (∀ x, x ∈ l' ↔ x ∈ l) ∧ SlE Elk w' v l' ∧ Below base W w' := by
  have hS := ownE_slE h
  obtain ⟨p, cap, rfl, hcap⟩ := slE_shape hS
  by_cases h0 : l = []
  · subst h0
    have := AnyF.slices_SortFunc_none Try.sortLink p cap (.func (.func 57) #[] #[]) W
    change Calls Try.prog 56 _ _ _ at this
    refine this.mono fun e w' ⟨he, hw⟩ => ⟨he, [], rfl, fun i k _ hk => absurd hk (Nat.not_lt_zero _), fun x => Iff.rfl, ?_, ?_⟩
    · subst hw; exact hS
    · subst hw; exact Below.refl _ _
  · have hpos : 0 < l.length := List.length_pos_iff.2 h0
    obtain ⟨g, c3, e3, hgb⟩ := ownK_form h rfl hpos
    injection e3 with e3 _ e4
    subst e3 e4
    have hr := ownK_rg h rfl hpos
    have hH := holdsT hr (fun k => ownK_frozen h rfl k)
    obtain ⟨b1, o1, e, q1, _⟩ := lks_ptr hS hpos
    injection e with e
    injection e with e1 e2
    subst e1 e2
    have := AnyQ.slices_SortFunc Try.sortLink 67 Try.isAgg63 Try.sizeOf63 lkL lk_len lk_one cmpT swoT 57 #[] g 0 cap l.toArray W entersTarget (cmpTarget _ _ _ _) hH q1 (by simp; omega)
    change Calls Try.prog 56 _ _ _ at this
    refine this.mono fun e w' ⟨he, d', n, os, hp, hs, hw⟩ => ⟨he, d'.toList, ?_⟩
    obtain ⟨k1, k2, k3⟩ := rise_of hp hs
    have hlen : d'.toList.length = l.length := by rw [Array.length_toList, k1]; simp
    have hH2 : Sort.HoldsK lkL 67 w' g 0 d' := by
      rw [hw]
      exact holdsK_sortWorldK_c lkL 67 W g 0 _ _ n os hH q1 (by rw [k1])
    refine ⟨hlen, k2, k3, ⟨some ⟨g, 0, none⟩, cap, by rw [hlen], by rw [hlen]; exact hcap, .inr ⟨g, 0, rfl, ?_, rangeT hH2⟩⟩, by subst hw; exact below_sortT hgb hbs⟩
    rw [hw]; exact Nat.lt_of_lt_of_le q1 (size_sortWorldK_c lkL 67 W g 0 n _ os)
end Go.Proofs.Ytlhnjaeocoafnaa
namespace Go.Proofs.Ytlhnjaeocoafnaa
open Go.RowKit
set_option maxRecDepth 100000

set_option maxRecDepth 100000 in
set_option maxHeartbeats 4000000 in
theorem linkTwice (a b : Lk) (w : World) :
    Calls Try.prog 103 #[.agg (lk a), .agg (lk b)] w fun e w' => e = .returned (.bool (twiceB a b)) ∧ Below w.heap.size w w' := by
  obtain ⟨W0, hW0⟩ : ∃ W0, W0 = (w.alloc (.cells (lk a) 63)).alloc (.cells (lk b) 63) := ⟨_, rfl⟩
  obtain ⟨hB, A, B⟩ := lk_two w a b W0 hW0
  have HB := Lib.hid hB
  have HW := Lib.hid hW0
  have La := fun p : Wd W0.drew => wd_ld A.a (by decide) p
  have Lb := fun p : Wd W0.drew => wd_ld B.a (by decide) p
  have Ta := fun p : Wd W0.drew => wd_cell A.te p
  have Tb := fun p : Wd W0.drew => wd_cell B.te p
  have HA := Lib.hid (fun W => linkEnds a W)
  have HC := Lib.hid (fun W => linkEnds b W)
  obtain ⟨O, hO⟩ : ∃ O, O = decide (edOf a = edOf b) := ⟨_, rfl⟩
  have HR : Hid (twiceB a b = (!O && decide (a.t.epoch.toNat = b.t.epoch.toNat))) := by
    show _ = _
    unfold twiceB
    rw [show oneB a b = O from ?_]
    rw [hO, Bool.eq_iff_iff, oneB_iff, decide_eq_true_iff]
    exact ⟨fun h => Ed.ext h.1 h.2, fun h => ⟨congrArg Ed.s h, congrArg Ed.t h⟩⟩
  rw [HR.out]
  have t1 := hO.symm
  generalize a.t.epoch.toNat = A2 at *
  generalize b.t.epoch.toNat = B2 at *
  generalize edOf a = X1 at *
  generalize edOf b = X2 at *
  obtain ⟨E2, hE2⟩ : ∃ E, E = decide (A2 = B2) := ⟨_, rfl⟩
  rw [← hE2]
  have t2 : ((A2 : Int) == (B2 : Int)) = E2 := by rw [hE2, Bool.eq_iff_iff, beq_iff_eq, decide_eq_true_iff]; omega
  have t2' : (A2 == B2) = E2 := by rw [hE2, Bool.eq_iff_iff, beq_iff_eq, decide_eq_true_iff]
  have t2'' : decide (A2 = B2) = E2 := hE2.symm
  clear hE2 HR hW0 hB A B hO
  go_enter Try.func103, Try.ntmps103
  go_upto_region 1 with fail
  rw [← HW.out]
  cases O <;> cases E2 <;> (
    refine wp_region_lex [1, 3] (by kernel_rfl) (by kernel_rfl) (by kernel_rfl) ?_
    repeat (first | (refine wpXL_quiet rfl rfl _ cls_begin ?_; (first | go_big_quiet_step (fail) | quiet_step (fail)); refine wpQuiet_nil ?_) | refine wpXL_skip rfl ?_)
    refine wpXL_call rfl rfl rfl enters_linkEnds #[.agg (lk a)] rfl ?_
    refine (HA.out _).mono ?_
    rintro e u ⟨rfl, g⟩
    refine ⟨_, rfl, g, ?_⟩
    simp only [Act.put, List.setIfInBounds_toArray, List.set_cons_zero, List.set_cons_succ]
    have G : Hid (Below W0.heap.size W0 u) := belowT (belowD (Below.refl _ _) 1) g
    clear g
    repeat (first | (refine wpXL_quiet rfl rfl _ cls_begin ?_; (first | go_big_quiet_step (fail) | quiet_step (fail)); refine wpQuiet_nil ?_) | refine wpXL_skip rfl ?_)
    refine wpXL_call rfl rfl rfl enters_linkEnds #[.agg (lk b)] rfl ?_
    refine (HC.out _).mono ?_
    rintro e u2 ⟨rfl, g⟩
    refine ⟨_, rfl, g, ?_⟩
    simp only [Act.put, List.setIfInBounds_toArray, List.set_cons_zero, List.set_cons_succ]
    replace G : Hid (Below W0.heap.size W0 u2) := belowT G.out g
    clear g
    repeat (first | (refine wpXL_quiet rfl rfl _ cls_begin ?_; (first | go_big_quiet_step (fail) | quiet_step (fail)); refine wpQuiet_nil ?_) | refine wpXL_skip rfl ?_)
    refine wpXL_nil ?_
    go_wp2_with fail
    go_ret
    exact ⟨rfl, belowT HB.out G.out⟩)
theorem enters_linkTwice : ∀ args w, (callFunc 103 args).run Try.prog w = .ok (.enter 103 args) w := entersE Try.func103 (by kernel_rfl) (by kernel_rfl)

def fTwice : Value := .func (.func 103) #[] #[]
def fAround : Value := .func (.func 104) #[] #[]
set_option maxRecDepth 100000 in
set_option maxHeartbeats 4000000 in
theorem linkRules (w : World) :
    Calls Try.prog 81 #[] w fun e w' => e = .returned (.slice (some ⟨w.heap.size, 0, none⟩) 2 2) ∧ w' = w.alloc (.cells #[fTwice, fAround] 115) := by
  go_enter Try.func81, Try.ntmps81
  go_wp2_with fail
  go_ret
  exact ⟨rfl, rfl⟩
end Go.Proofs.Ytlhnjaeocoafnaa
