/-
  Who is guilty, plainly, by one walk over links that stand by rising targets' epochs: of those that one validator attested two clash just if two that come one after the other do; no word of the program.
  Package link: byTarget, and slices.SortFunc by it.
-/
import Derived.Test.YtkbifcfgcokmlaaQ10
import Derived.Test.YtkbifcfgcokmlaaQ26
import Derived.Test.YtkbifcfgcokmlaaShelf
namespace Go.Proofs.Ytkbifcfgcokmlaa
set_option maxRecDepth 100000

/-- Two that do not clash, the first one's target's epoch no greater than the other one's. -/
theorem noclash {a b : Lk} (h : a.t.epoch.toNat ≤ b.t.epoch.toNat) : clashB a b = false ↔ (a.t.epoch.toNat = b.t.epoch.toNat → oneB a b = true) ∧ (a.t.epoch.toNat < b.t.epoch.toNat → a.s.epoch.toNat ≤ b.s.epoch.toNat) := by
  unfold clashB roundB
  have e1 : (a.t.epoch = b.t.epoch) ↔ a.t.epoch.toNat = b.t.epoch.toNat := UInt64.toNat_inj.symm
  rw [Bool.or_eq_false_iff, Bool.or_eq_false_iff, Bool.and_eq_false_iff, decide_eq_false_iff_not, decide_eq_false_iff_not, decide_eq_false_iff_not, e1, Bool.not_eq_false']
  constructor
  · rintro ⟨h1, _, h2⟩
    exact ⟨fun e => h1.resolve_right (fun q => q e), fun hl => by omega⟩
  · rintro ⟨h1, h2⟩
    refine ⟨?_, by omega, by omega⟩
    by_cases e : a.t.epoch.toNat = b.t.epoch.toNat
    · exact .inl (h1 e)
    · exact .inr e
theorem noclash_trans {a b c : Lk} (h1 : a.t.epoch.toNat ≤ b.t.epoch.toNat) (h2 : b.t.epoch.toNat ≤ c.t.epoch.toNat) (hab : clashB a b = false) (hbc : clashB b c = false) : clashB a c = false := by
  obtain ⟨p1, p2⟩ := (noclash h1).1 hab
  obtain ⟨q1, q2⟩ := (noclash h2).1 hbc
  have hse : ∀ {x y : Lk}, oneB x y = true → x.s.epoch.toNat = y.s.epoch.toNat := fun h => by rw [(oneB_iff.1 h).1]
  refine (noclash (by omega)).2 ⟨fun e => ?_, fun hl => ?_⟩
  · have e1 := oneB_iff.1 (p1 (by omega))
    have e2 := oneB_iff.1 (q1 (by omega))
    exact oneB_iff.2 ⟨e1.1.trans e2.1, e1.2.trans e2.2⟩
  · have ha : a.s.epoch.toNat ≤ b.s.epoch.toNat := by
      rcases Nat.lt_or_ge a.t.epoch.toNat b.t.epoch.toNat with h | h
      · exact p2 h
      · exact Nat.le_of_eq (hse (p1 (by omega)))
    have hb : b.s.epoch.toNat ≤ c.s.epoch.toNat := by
      rcases Nat.lt_or_ge b.t.epoch.toNat c.t.epoch.toNat with h | h
      · exact q2 h
      · exact Nat.le_of_eq (hse (q1 (by omega)))
    omega

/-- Rising targets' epochs. -/
def Rise (l : List Lk) : Prop := ∀ i k, i ≤ k → k < l.length → (lkAt l i).t.epoch.toNat ≤ (lkAt l k).t.epoch.toNat
def hasK (l : List Lk) (i v : Nat) : Bool := (lkAt l i).mask.toNat.testBit v
/-- Two of the first n that clash have it both. -/
def GuK (l : List Lk) (n v : Nat) : Prop := ∃ i k, i < k ∧ k < n ∧ clashB (lkAt l i) (lkAt l k) = true ∧ hasK l i v = true ∧ hasK l k v = true
/-- It is the last one of the first n that has it. -/
def LaK (l : List Lk) (n v a : Nat) : Prop := a < n ∧ hasK l a v = true ∧ ∀ k, a < k → k < n → hasK l k v = false
theorem guK_zero {l : List Lk} {v : Nat} : ¬ GuK l 0 v := fun ⟨_, _, _, h, _⟩ => by omega
theorem guK_no {l : List Lk} {n v : Nat} (h : hasK l n v = false) : GuK l (n + 1) v ↔ GuK l n v := by
  constructor
  · rintro ⟨i, k, h1, h2, h3, h4, h5⟩
    have : k ≠ n := fun e => by rw [e, h] at h5; cases h5
    exact ⟨i, k, h1, by omega, h3, h4, h5⟩
  · rintro ⟨i, k, h1, h2, h3⟩
    exact ⟨i, k, h1, by omega, h3⟩
theorem guK_mono {l : List Lk} {n v : Nat} (h : GuK l n v) : GuK l (n + 1) v := by
  obtain ⟨i, k, h1, h2, h3⟩ := h
  exact ⟨i, k, h1, by omega, h3⟩
/-- None of the first n has it: it isn't guilty by the next one. -/
theorem guK_first {l : List Lk} {n v : Nat} (h : ∀ k, k < n → hasK l k v = false) : ¬ GuK l (n + 1) v := by
  rintro ⟨i, k, h1, h2, _, h4, _⟩
  rw [h i (by omega)] at h4; cases h4
theorem guK_last {l : List Lk} {n v a : Nat} (hr : Rise l) (hn : n < l.length) (ha : LaK l n v a) (hg : ¬ GuK l n v) (hv : hasK l n v = true) : GuK l (n + 1) v ↔ clashB (lkAt l a) (lkAt l n) = true := by
  constructor
  · rintro ⟨i, k, h1, h2, h3, h4, h5⟩
    by_cases e : k = n
    · subst e
      by_cases ei : i = a
      · subst ei; exact h3
      · have hia : i < a := by
          rcases Nat.lt_or_ge a i with h | h
          · rw [ha.2.2 i h (by omega)] at h4; cases h4
          · omega
        have e1 : clashB (lkAt l i) (lkAt l a) = false := by
          cases e : clashB (lkAt l i) (lkAt l a)
          · rfl
          · exact absurd ⟨i, a, hia, ha.1, e, h4, ha.2.1⟩ hg
        have hak := ha.1
        cases e2 : clashB (lkAt l a) (lkAt l k)
        · have := noclash_trans (hr i a (by omega) (by omega)) (hr a k (by omega) hn) e1 e2
          rw [this] at h3; cases h3
        · rfl
    · exact absurd ⟨i, k, h1, by omega, h3, h4, h5⟩ hg
  · intro h
    exact ⟨a, n, ha.1, by omega, h, ha.2.1, hv⟩
theorem laK_self {l : List Lk} {n v : Nat} (h : hasK l n v = true) : LaK l (n + 1) v n := ⟨by omega, h, fun k h1 h2 => by omega⟩
theorem laK_no {l : List Lk} {n v a : Nat} (h : hasK l n v = false) (ha : LaK l n v a) : LaK l (n + 1) v a := ⟨by have := ha.1; omega, ha.2.1, fun k h1 h2 => by
  by_cases e : k = n
  · subst e; exact h
  · exact ha.2.2 k h1 (by omega)⟩
/-- All of them: as the document says it, in whatever order. -/
theorem guK_all {l ls : List Lk} (hp : ∀ x, x ∈ l ↔ x ∈ ls) (v : Nat) : GuK l l.length v ↔ (guiltT ls).toNat.testBit v = true := by
  rw [guilt_bit]
  constructor
  · rintro ⟨i, k, h1, h2, h3, h4, h5⟩
    exact ⟨_, _, (hp _).1 (lkAt_mem (show i < l.length by omega)), (hp _).1 (lkAt_mem h2), h3, h4, h5⟩
  · rintro ⟨a, b, ha, hb, hc, h1, h2⟩
    obtain ⟨i, hi, rfl⟩ := List.getElem_of_mem ((hp _).2 ha)
    obtain ⟨k, hk, rfl⟩ := List.getElem_of_mem ((hp _).2 hb)
    have ei := lkAt_in hi
    have ek := lkAt_in hk
    rcases Nat.lt_trichotomy i k with h | h | h
    · exact ⟨i, k, h, hk, by rw [ei, ek]; exact hc, by unfold hasK; rw [ei]; exact h1, by unfold hasK; rw [ek]; exact h2⟩
    · subst h; rw [clash_self] at hc; cases hc
    · exact ⟨k, i, h, hi, by rw [ei, ek, clash_comm]; exact hc, by unfold hasK; rw [ek]; exact h2, by unfold hasK; rw [ei]; exact h1⟩
end Go.Proofs.Ytkbifcfgcokmlaa
namespace Go.Proofs.Ytkbifcfgcokmlaa
open Go.RowKit
set_option maxRecDepth 100000

theorem isNaNU (x : Int) (w : World) : Calls Try.prog 53 #[.int .u64 x] w fun e w' => e = .returned (.bool false) ∧ w' = w := by
  go_enter Try.func53, Try.ntmps53
  go_wp2_with fail
  go_ret
  exact ⟨by simp, rfl⟩
def cmpN (a b : Nat) : Int := if a < b then -1 else if b < a then 1 else 0
set_option maxRecDepth 100000 in
set_option maxHeartbeats 4000000 in
theorem compareU (a b : Nat) (w : World) : Calls Try.prog 41 #[.int .u64 (a : Int), .int .u64 (b : Int)] w fun e w' => e = .returned (.int .i64 (cmpN a b)) ∧ w' = w := by
  have HA := Lib.hid (isNaNU (a : Int) w)
  have HB := Lib.hid (isNaNU (b : Int) w)
  obtain ⟨r, hr⟩ : ∃ r, r = cmpN a b := ⟨_, rfl⟩
  rw [← hr]
  have HR := Lib.hid hr
  clear hr
  by_cases h1 : a < b
  · have t1 : decide ((a : Int) < (b : Int)) = true := decide_eq_true (by omega)
    have t1' : decide (a < b) = true := decide_eq_true h1
    have hR : Hid (r = -1) := by show r = _; rw [HR.out]; exact if_pos h1
    clear h1
    go_enter Try.func41, Try.ntmps41
    go_wp2_with fail
    refine HA.out.mono ?_
    rintro e w' ⟨rfl, rfl⟩
    go_wp2_with fail
    refine HB.out.mono ?_
    rintro e w' ⟨rfl, rfl⟩
    go_wp2_with fail
    go_ret
    exact ⟨by rw [hR.out]; rfl, rfl⟩
  · have t1 : decide ((a : Int) < (b : Int)) = false := decide_eq_false (by omega)
    have t1' : decide (a < b) = false := decide_eq_false h1
    by_cases h2 : b < a
    · have t2 : decide ((b : Int) < (a : Int)) = true := decide_eq_true (by omega)
      have t2' : decide (b < a) = true := decide_eq_true h2
      have hR : Hid (r = 1) := by show r = _; rw [HR.out]; unfold cmpN; rw [if_neg h1, if_pos h2]
      clear h1 h2
      go_enter Try.func41, Try.ntmps41
      go_wp2_with fail
      refine HA.out.mono ?_
      rintro e w' ⟨rfl, rfl⟩
      go_wp2_with fail
      refine HB.out.mono ?_
      rintro e w' ⟨rfl, rfl⟩
      go_wp2_with fail
      go_ret
      exact ⟨by rw [hR.out]; rfl, rfl⟩
    · have t2 : decide ((b : Int) < (a : Int)) = false := decide_eq_false (by omega)
      have t2' : decide (b < a) = false := decide_eq_false h2
      have hR : Hid (r = 0) := by show r = _; rw [HR.out]; unfold cmpN; rw [if_neg h1, if_neg h2]
      clear h1 h2
      go_enter Try.func41, Try.ntmps41
      go_wp2_with fail
      refine HA.out.mono ?_
      rintro e w' ⟨rfl, rfl⟩
      go_wp2_with fail
      refine HB.out.mono ?_
      rintro e w' ⟨rfl, rfl⟩
      go_wp2_with fail
      go_ret
      exact ⟨by rw [hR.out]; rfl, rfl⟩
def cmpT (x y : Lk) : Int := cmpN x.t.epoch.toNat y.t.epoch.toNat
set_option maxRecDepth 100000 in
set_option maxHeartbeats 4000000 in
theorem byTarget_any (a b : Lk) (w : World) :
    Calls Try.prog 34 #[.agg (lk a), .agg (lk b)] w fun e w' => e = .returned (.int .i64 (cmpT a b)) ∧ ∃ n os, w' = Sort.grow (w.drewN n) os := by
  obtain ⟨W0, hW0⟩ : ∃ W0, W0 = (w.alloc (.cells (lk a) 36)).alloc (.cells (lk b) 36) := ⟨_, rfl⟩
  obtain ⟨_, A, B⟩ := lk_two w a b W0 hW0
  have HW := Lib.hid hW0
  have a1 := A.te
  have b1 := B.te
  have HC := Lib.hid (compareU a.t.epoch.toNat b.t.epoch.toNat W0)
  have hr : cmpT a b = cmpN a.t.epoch.toNat b.t.epoch.toNat := rfl
  rw [hr]
  generalize cmpN a.t.epoch.toNat b.t.epoch.toNat = r at *
  clear hW0 A B hr
  go_enter Try.func34, Try.ntmps34
  go_upto_region 1 with fail
  rw [← HW.out]
  go_wp2_with fail
  refine HC.out.mono ?_
  rintro e w' ⟨rfl, rfl⟩
  clear a1 b1
  go_wp2_with fail
  go_ret
  exact ⟨rfl, 0, _, by rw [HW.out, Sort.alloc_eq_grow, Sort.alloc_eq_grow, Sort.grow_grow]; rfl⟩

/-! ### the sort -/
instance : Inhabited Lk := ⟨⟨zcc, zcc, 0⟩⟩
theorem lkL_arr (x : Lk) : (lkL x).toArray = lk x := Array.toList_inj.1 (by rw [lk_list])
theorem ltT (x y : Lk) : ltOf cmpT x y = decide (x.t.epoch.toNat < y.t.epoch.toNat) := by
  unfold ltOf cmpT cmpN
  by_cases h1 : x.t.epoch.toNat < y.t.epoch.toNat
  · rw [if_pos h1, decide_eq_true h1]; rfl
  · rw [if_neg h1, decide_eq_false h1]
    split <;> rfl
theorem swoT : Sort.SWO (ltOf cmpT) where
  irrefl x := by rw [ltT]; simp
  trans x y z h1 h2 := by rw [ltT] at *; simp at *; omega
  ntrans x y z h1 h2 := by rw [ltT] at *; simp at *; omega
theorem cmpTarget (blk off size : Nat) (w : World) : CmpLays Try.prog 34 #[] lkL 67 cmpT blk off size w := fun _ _ _ _ x y => by
  rw [lkL_arr, lkL_arr]; exact byTarget_any x y _
theorem entersTarget : ∀ args w, (callFunc 34 args).run Try.prog w = .ok (.enter 34 args) w := enters_of Try.func34 (by kernel_rfl) rfl
theorem lkD (d : Array Lk) (i : Nat) : d[i]! = lkAt d.toList i := by
  unfold lkAt
  rw [List.getD_eq_getElem?_getD, Array.getElem?_toList]
  by_cases h : i < d.size
  · rw [getElem!_pos d i h]; simp [h]
  · rw [getElem!_neg d i h]; simp [h]; rfl
theorem flatK_get (d : Array Lk) (t : Nat) (h : t < d.size * 67) : some ((Sort.flatK lkL 67 d)[t]!) = (cellsE Elk d.toList)[t]? := by
  rw [Sort.get_flatK lkL 67 d t h, lkD]
  have hi : t / 67 < d.toList.length := by rw [Array.length_toList]; omega
  have hc : t % 67 < 67 := Nat.mod_lt _ (by decide)
  have h1 := cellsE_get Elk d.toList (t / 67) (t % 67) hi hc
  rw [show t / 67 * Elk.n + t % 67 = t from by show t / 67 * 67 + t % 67 = t; omega] at h1
  rw [h1, lkAt_in hi]
  have h2 : t % 67 < (lkL d.toList[t / 67]).length := by rw [lk_len]; exact hc
  show _ = (lkL d.toList[t / 67])[t % 67]?
  rw [List.getElem!_eq_getElem?_getD, List.getElem?_eq_getElem h2]; rfl
theorem holdsT {w : World} {g : Nat} {l : List Lk} (hr : w.rangeAt g 0 (cellsE Elk l)) (hf : ∀ k, w.frozen? ⟨g, k, none⟩ = false) : Sort.HoldsK lkL 67 w g 0 l.toArray := by
  intro j hj
  have hj' : j < l.toArray.size * 67 := by simpa [Sort.size_flatK] using hj
  refine ⟨?_, hf _⟩
  exact hr j _ (flatK_get l.toArray j hj').symm
theorem rangeT {w : World} {g : Nat} {d : Array Lk} (h : Sort.HoldsK lkL 67 w g 0 d) : w.rangeAt g 0 (cellsE Elk d.toList) := by
  intro j v hv
  have hj : j < d.size * 67 := by
    have := (List.getElem?_eq_some_iff.1 hv).1
    rw [cellsE_length, Array.length_toList] at this
    exact this
  have h1 := (h j (by rw [Sort.size_flatK]; exact hj)).1
  rw [← flatK_get d j hj] at hv
  injection hv with hv
  rw [← hv]; exact h1
theorem below_sortT {B : Nat} {w : World} {g n : Nat} {d : Array Lk} {os : Array Obj} (hg : B ≤ g) (hB : B ≤ w.heap.size) : Below B w (sortWorldK lkL 67 w g 0 n d os) := by
  refine ⟨rfl, rfl, rfl, size_sortWorldK_c lkL 67 w g 0 n d os, fun k hk => ?_⟩
  unfold sortWorldK
  rw [Sort.heap_grow_old _ _ (by rw [show (Sort.putRowK lkL 67 (Sort.ahead w n) g 0 d).heap.size = w.heap.size from Sort.size_putRow _ _ _ _ _]; omega)]
  show (Sort.mapBlock (Sort.ahead w n) g _).heap[k]? = _
  simp only [Sort.mapBlock, Array.getElem?_modify]
  rw [if_neg (by omega)]
  rfl
theorem rise_of {d d' : Array Lk} (hp : Sort.PermIn 0 d.size d d') (hs : Sort.SortedIn (ltOf cmpT) 0 d.size d') : d'.size = d.size ∧ Rise d'.toList ∧ ∀ x, x ∈ d'.toList ↔ x ∈ d.toList := by
  obtain ⟨h1, _, h3⟩ := hp
  refine ⟨h1, fun i k hik hk => ?_, fun x => ?_⟩
  · rw [Array.length_toList, h1] at hk
    rcases Nat.lt_or_ge i k with h | h
    · have := hs i k (Nat.zero_le _) h hk
      rw [ltT, lkD, lkD, decide_eq_false_iff_not] at this
      omega
    · obtain rfl : i = k := by omega
      exact Nat.le_refl _
  · have e1 : d'.extract 0 d.size = d' := by rw [← h1]; simp
    have e2 : d.extract 0 d.size = d := by simp
    rw [e1, e2] at h3
    exact h3.mem_iff
/-- Links in a row of the call's own, by rising targets' epochs. -/
theorem sortLinks (v : Value) (base : Nat) (l : List Lk) (W : World) (h : OwnE Elk W base v l) (hn : l.length ≤ 1000) (hbs : base ≤ W.heap.size) :
    Calls Try.prog 33 #[v, .func (.func 34) #[] #[]] W fun e w' => e = .returned (.tuple #[]) ∧ ∃ l' : List Lk, l'.length = l.length ∧ Rise l' ∧ (∀ x, x ∈ l' ↔ x ∈ l) ∧ SlE Elk w' v l' ∧ Below base W w' := by
  have hS := ownE_slE h
  obtain ⟨p, cap, rfl, hcap⟩ := slE_shape hS
  by_cases h0 : l = []
  · subst h0
    have := AnyF.slices_SortFunc_none Try.sortLink p cap (.func (.func 34) #[] #[]) W
    change Calls Try.prog 33 _ _ _ at this
    refine this.mono fun e w' ⟨he, hw⟩ => ⟨he, [], rfl, fun i k _ hk => absurd hk (Nat.not_lt_zero _), fun x => Iff.rfl, ?_, ?_⟩
    · subst hw; exact hS
    · subst hw; exact Below.refl _ _
  · have hpos : 0 < l.length := List.length_pos_iff.2 h0
    obtain ⟨g, c3, e3, hgb⟩ := ownK_form h rfl hpos
    injection e3 with e3 _ e4
    subst e3 e4
    have hr := ownK_rg h rfl hpos
    have hH := holdsT hr (fun k => ownK_frozen h rfl k)
    obtain ⟨b1, o1, e, q1, _⟩ := lks_ptr hS hpos
    injection e with e
    injection e with e1 e2
    subst e1 e2
    have := AnyQ.slices_SortFunc Try.sortLink 67 Try.isAgg36 Try.sizeOf36 lkL lk_len lk_one cmpT swoT 34 #[] g 0 cap l.toArray W entersTarget (cmpTarget _ _ _ _) hH q1 (by simp; omega)
    change Calls Try.prog 33 _ _ _ at this
    refine this.mono fun e w' ⟨he, d', n, os, hp, hs, hw⟩ => ⟨he, d'.toList, ?_⟩
    obtain ⟨k1, k2, k3⟩ := rise_of hp hs
    have hlen : d'.toList.length = l.length := by rw [Array.length_toList, k1]; simp
    have hH2 : Sort.HoldsK lkL 67 w' g 0 d' := by
      rw [hw]
      exact holdsK_sortWorldK_c lkL 67 W g 0 _ _ n os hH q1 (by rw [k1])
    refine ⟨hlen, k2, k3, ⟨some ⟨g, 0, none⟩, cap, by rw [hlen], by rw [hlen]; exact hcap, .inr ⟨g, 0, rfl, ?_, rangeT hH2⟩⟩, by subst hw; exact below_sortT hgb hbs⟩
    rw [hw]; exact Nat.lt_of_lt_of_le q1 (size_sortWorldK_c lkL 67 W g 0 n _ os)
end Go.Proofs.Ytkbifcfgcokmlaa
