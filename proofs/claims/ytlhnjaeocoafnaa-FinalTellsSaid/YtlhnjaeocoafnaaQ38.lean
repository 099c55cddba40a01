/-
  What is asked of stake.May.
  Package stake: slices.Max of numbers, and May: walked.
  Those that a mask has, rising: plainly.
  What is asked of stake.Of.
  What is asked of stake.Total.
  Package stake: Of, Total, walked.
-/
import Derived.Test.YtlhnjaeocoafnaaQ10
import Derived.Test.YtlhnjaeocoafnaaQ18
import Derived.Test.YtlhnjaeocoafnaaQ37
import Derived.Laws.ShiftsVarLaws
namespace Go.Proofs.Ytlhnjaeocoafnaa
open Go.RowKit
set_option maxRecDepth 100000

def StMayC : Prop := ∀ (v : Value) (l : List UInt64) (w : World), SlE Enum w v l → Calls Try.prog 24 #[v] w fun e w' => e = .returned (.bool (mayB l)) ∧ Below w.heap.size w w'
end Go.Proofs.Ytlhnjaeocoafnaa
namespace Go.Proofs.Ytlhnjaeocoafnaa
open Go.RowKit
set_option maxRecDepth 100000

/-- The greatest of the first n. -/
def mxU (f : Nat → Nat) : Nat → Nat
  | 0 => 0
  | n + 1 => if mxU f n < f n then f n else mxU f n
theorem mxU_le (f : Nat → Nat) (B : Nat) : ∀ n, mxU f n ≤ B ↔ ∀ i, i < n → f i ≤ B
  | 0 => ⟨fun _ i hi => absurd hi (Nat.not_lt_zero _), fun _ => Nat.zero_le _⟩
  | n + 1 => by
    have ih := mxU_le f B n
    simp only [mxU]
    constructor
    · intro h i hi
      split at h
      · rename_i hc
        rcases Nat.lt_succ_iff_lt_or_eq.1 hi with h1 | rfl
        · exact ih.1 (by omega) i h1
        · exact h
      · rename_i hc
        rcases Nat.lt_succ_iff_lt_or_eq.1 hi with h1 | rfl
        · exact ih.1 h i h1
        · omega
    · intro h
      have h1 := ih.2 (fun i hi => h i (by omega))
      have h2 := h n (by omega)
      split <;> omega
theorem mxU_yes {f : Nat → Nat} {n : Nat} (h : mxU f n < f n) : mxU f (n + 1) = f n := if_pos h
theorem mxU_no {f : Nat → Nat} {n : Nat} (h : ¬ mxU f n < f n) : mxU f (n + 1) = mxU f n := if_neg h

set_option maxRecDepth 100000 in
set_option maxHeartbeats 1000000 in
theorem slicesMax_n (p : Option Addr) (n cp : Nat) (l : List UInt64) (w : World) (h : SlE Enum w (.slice p n cp) l) (hl : l.length = n) (h1 : 1 ≤ n) (hn : n ≤ 1000) :
    Calls Try.prog 51 #[.slice p n cp] w fun e w' => e = .returned (.int .u64 (mxU (fn l) n : Int)) ∧ Below w.heap.size w w' := by
  have HS := Lib.hid h
  have HL := Lib.hid hl
  have HN := Lib.hid hn
  have H1 := Lib.hid h1
  have HZ : Hid (mxU (fn l) 1 = fn l 0) := by
    show mxU (fn l) 1 = fn l 0
    by_cases h0 : mxU (fn l) 0 < fn l 0
    · exact mxU_yes h0
    · rw [mxU_no h0]; have : mxU (fn l) 0 = 0 := rfl; omega
  obtain ⟨b1, o1, rfl, q1, x1⟩ := nums_ptr h (by omega)
  have y1 := nums_cell x1 (i := 0) (by omega)
  have t0 : decide ((n : Int) < 1) = false := decide_eq_false (by omega)
  have t0' : decide (n < 1) = false := decide_eq_false (by omega)
  have t0'' : decide (n = 0) = false := decide_eq_false (by omega)
  have i1 : (0 : Int) < (n : Int) := by omega
  have i1' : 0 < n := by omega
  clear h hl hn h1 x1 q1
  simp only [Nat.add_zero] at y1
  go_enter Try.func51, Try.ntmps51
  go_wp2_with fail
  clear y1 t0 t0' t0'' i1 i1'
  go_loopw [3, 4] (fun m i wr => ∃ j : Nat, 1 ≤ j ∧ j ≤ n ∧ i = .int .i64 (j : Int) ∧ m = .int .u64 (mxU (fn l) j : Int) ∧ wr = w) (fun _ i _ => n - (intOf i).toNat)
  case atStart => exact ⟨1, Nat.le_refl _, H1.out, rfl, by rw [HZ.out], rfl⟩
  case round =>
    obtain ⟨j, hj1, hj, rfl, rfl, rfl⟩ := hrel
    have HJ1 := Lib.hid hj1
    clear hj1
    by_cases hlt : j < n
    · have i0 : (0 : Int) ≤ (j : Int) := by omega
      have i1 : (j : Int) < (n : Int) := by omega
      have u1 : (j : Int) + 1 < 10000 := by have := HN.out; omega
      have d0 : decide ((j : Int) < (n : Int)) = true := decide_eq_true i1
      have d0' : decide (j < n) = true := decide_eq_true hlt
      obtain ⟨b1, o1, e1, q1, x1⟩ := nums_ptr HS.out (by have := HL.out; omega)
      cases e1
      have y1 := nums_cell x1 (i := j) (by have := HL.out; omega)
      have HLT := Lib.hid hlt
      by_cases hc : mxU (fn l) j < fn l j
      · have HX := Lib.hid (mxU_yes hc)
        obtain ⟨x, hx⟩ : ∃ x, x = mxU (fn l) j := ⟨_, rfl⟩
        obtain ⟨y, hy⟩ : ∃ y, y = fn l j := ⟨_, rfl⟩
        rw [← hx] at hc
        rw [← hx]
        rw [← hy] at hc y1 HX
        have c1 : (x : Int) < (y : Int) := by omega
        have HC := Lib.hid hc
        clear hlt x1 q1 hx hy
        go_wp2_with fail
        go_roundw
        case rel => exact ⟨j + 1, by have := HJ1.out; omega, HLT.out, by go_num, by rw [HX.out], by first | rfl | trivial⟩
        case measure => simp [intOf]; have := HLT.out; omega
      · have HX := Lib.hid (mxU_no hc)
        obtain ⟨x, hx⟩ : ∃ x, x = mxU (fn l) j := ⟨_, rfl⟩
        obtain ⟨y, hy⟩ : ∃ y, y = fn l j := ⟨_, rfl⟩
        rw [← hx] at hc HX
        rw [← hx]
        rw [← hy] at hc y1
        have c1 : ¬ (x : Int) < (y : Int) := by omega
        have HC := Lib.hid hc
        clear hlt x1 q1 hx hy
        go_wp2_with fail
        go_roundw
        case rel => exact ⟨j + 1, by have := HJ1.out; omega, HLT.out, by go_num, by rw [HX.out], by first | rfl | trivial⟩
        case measure => simp [intOf]; have := HLT.out; omega
    · obtain rfl : j = n := by omega
      clear hlt
      go_wp2_with fail
      go_ret
      exact ⟨rfl, Below.refl _ _⟩
theorem enters_slicesMax : ∀ args w, (callFunc 51 args).run Try.prog w = .ok (.enter 51 args) w := entersE Try.func51 (by kernel_rfl) (by kernel_rfl)

set_option maxRecDepth 100000 in
set_option maxHeartbeats 1000000 in
theorem stakeMay_n (p : Option Addr) (n cp : Nat) (l : List UInt64) (w : World) (h : SlE Enum w (.slice p n cp) l) (hl : l.length = n) :
    Calls Try.prog 24 #[.slice p n cp] w fun e w' => e = .returned (.bool (mayB l)) ∧ Below w.heap.size w w' := by
  by_cases h0 : 0 < n
  · have a0 : decide ((0 : Int) < (n : Int)) = true := decide_eq_true (by omega)
    have a0' : decide (0 < n) = true := decide_eq_true h0
    by_cases h8 : n ≤ 8
    · have a8 : decide ((n : Int) ≤ 8) = true := decide_eq_true (by omega)
      have a8' : decide (n ≤ 8) = true := decide_eq_true h8
      have HM := Lib.hid (slicesMax_n p n cp l w h hl (by omega) (by omega))
      have HE : Hid (mayB l = decide (mxU (fn l) n ≤ 1099511627776)) := by
        show _ = _
        rw [Bool.eq_iff_iff, mayB_iff, decide_eq_true_iff, mxU_le, hl]
        exact ⟨fun h => h.2.2, fun h => ⟨by omega, h8, h⟩⟩
      generalize mxU (fn l) n = m at *
      obtain ⟨r, hr⟩ : ∃ r, r = decide (m ≤ 1099511627776) := ⟨_, rfl⟩
      have d0 : decide ((m : Int) ≤ 1099511627776) = r := by rw [hr]; congr 1; rw [eq_iff_iff]; omega
      have d0' : decide (m ≤ 1099511627776) = r := hr.symm
      rw [HE.out, d0']
      clear h0 h8 h hl hr HE
      go_enter Try.func24, Try.ntmps24
      go_wp2_with fail
      refine HM.out.mono ?_
      rintro e w1 ⟨rfl, g⟩
      go_wp2_with fail
      go_ret
      exact ⟨rfl, g⟩
    · have a8 : decide ((n : Int) ≤ 8) = false := decide_eq_false (by omega)
      have a8' : decide (n ≤ 8) = false := decide_eq_false h8
      rw [show mayB l = false by rw [← Bool.not_eq_true, mayB_iff]; omega]
      clear h0 h8 h hl
      go_enter Try.func24, Try.ntmps24
      go_wp2_with fail
      go_ret
      exact ⟨rfl, Below.refl _ _⟩
  · obtain rfl : n = 0 := by omega
    rw [show mayB l = false by rw [← Bool.not_eq_true, mayB_iff]; omega]
    clear h0 h hl
    go_enter Try.func24, Try.ntmps24
    go_wp2_with fail
    go_ret
    exact ⟨rfl, Below.refl _ _⟩
theorem stakeMay : StMayC := fun v l w h => by
  have k := h
  obtain ⟨p, cp, rfl, _⟩ := slE_shape h
  exact stakeMay_n p _ cp l w k rfl
end Go.Proofs.Ytlhnjaeocoafnaa
namespace Go.Proofs.Ytlhnjaeocoafnaa
set_option maxRecDepth 100000

theorem who_sorted (mask : UInt64) : (whoT mask).Pairwise (· < ·) := by unfold whoT; exact List.Pairwise.filter _ List.pairwise_lt_range
theorem whoT_len (mask : UInt64) : (whoT mask).length ≤ 64 := by
  unfold whoT
  have := List.length_filter_le (hasB mask) (List.range 64)
  rwa [List.length_range] at this
end Go.Proofs.Ytlhnjaeocoafnaa
namespace Go.Proofs.Ytlhnjaeocoafnaa
open Go.RowKit
set_option maxRecDepth 100000

def StOfC : Prop := ∀ (v : Value) (l : List UInt64) (m : UInt64) (w : World), SlE Enum w v l → Calls Try.prog 53 #[v, .int .u64 (m.toNat : Int)] w fun e w' => e = .returned (.int .u64 (ofS l m : Int)) ∧ Below w.heap.size w w'
end Go.Proofs.Ytlhnjaeocoafnaa
namespace Go.Proofs.Ytlhnjaeocoafnaa
open Go.RowKit
set_option maxRecDepth 100000

def StTotalC : Prop := ∀ (v : Value) (l : List UInt64) (w : World), SlE Enum w v l → Calls Try.prog 54 #[v] w fun e w' => e = .returned (.int .u64 (totS l : Int)) ∧ Below w.heap.size w w'
end Go.Proofs.Ytlhnjaeocoafnaa
namespace Go.Proofs.Ytlhnjaeocoafnaa
open Go.RowKit Go.Shelf
set_option maxRecDepth 100000

attribute [local go_sem] Oper.semAt_some

/-- What those of a list have together, of the first n. -/
def sumV (f : Nat → Nat) (n : Nat) (ks : List Nat) : Nat := ((ks.filter fun v => decide (v < n)).map f).sum
theorem sumV_yes {f : Nat → Nat} {n : Nat} (ks : List Nat) {v : Nat} (h : v < n) : sumV f n (ks ++ [v]) = sumV f n ks + f v := by unfold sumV; rw [List.filter_append]; simp [h]
theorem sumV_no {f : Nat → Nat} {n : Nat} (ks : List Nat) {v : Nat} (h : n ≤ v) : sumV f n (ks ++ [v]) = sumV f n ks := by
  unfold sumV; rw [List.filter_append]; simp [show ¬ v < n by omega]
theorem sumV_le {f : Nat → Nat} {n B : Nat} (h : ∀ v, v < n → f v ≤ B) (ks : List Nat) : sumV f n ks ≤ ks.length * B := by
  induction ks with
  | nil => simp [sumV]
  | cons k ks ih =>
    have e : sumV f n (k :: ks) ≤ B + sumV f n ks := by
      unfold sumV
      by_cases hk : k < n
      · rw [List.filter_cons_of_pos (by simp [hk]), List.map_cons, List.sum_cons]; have := h k hk; omega
      · rw [List.filter_cons_of_neg (by simp [hk])]; omega
    rw [List.length_cons, Nat.add_mul, Nat.one_mul]
    omega
theorem sumV_lt {f : Nat → Nat} {n : Nat} (h : ∀ v, v < n → f v ≤ 1099511627776) {ks : List Nat} (hk : ks.length ≤ 64) : sumV f n ks ≤ 70368744177664 := by
  have h1 := sumV_le h ks
  omega
/-- Behind the first one that is too great all are. -/
theorem sumV_stop {f : Nat → Nat} {n : Nat} {L ys : List Nat} {x : Nat} (hs : L.Pairwise (· < ·)) (hp : ys ++ [x] <+: L) (hx : n ≤ x) : sumV f n L = sumV f n ys := by
  obtain ⟨t, rfl⟩ := hp
  have ht : t.filter (fun v => decide (v < n)) = [] := by
    rw [List.filter_eq_nil_iff]
    intro y hy
    rw [List.append_assoc] at hs
    have h2 := (List.pairwise_append.1 hs).2.1
    rw [List.singleton_append, List.pairwise_cons] at h2
    have := h2.1 y hy
    simp; omega
  have e : sumV f n (ys ++ [x] ++ t) = sumV f n (ys ++ [x]) := by unfold sumV; rw [List.filter_append, ht, List.append_nil]
  rw [e, sumV_no _ hx]
set_option maxRecDepth 100000 in
set_option maxHeartbeats 2000000 in
theorem stakeOf_no (p : Option Addr) (n cp : Nat) (l : List UInt64) (m : Int) (w : World) (h : SlE Enum w (.slice p n cp) l) (hl : l.length = n) (hm : mayB l = false) :
    Calls Try.prog 53 #[.slice p n cp, .int .u64 m] w fun e w' => e = .returned (.int .u64 0) ∧ Below w.heap.size w w' := by
  have HMy : Hid (∀ W, Below w.heap.size w W → Calls Try.prog 24 #[.slice p n cp] W fun e w' => e = .returned (.bool false) ∧ Below W.heap.size W w') := fun W g => by
    have := stakeMay_n p n cp l W (slE_keep g h) hl
    rwa [hm] at this
  obtain ⟨W0, hW0⟩ : ∃ W0, W0 = w.alloc (.cells #[.slice p n cp] 26) := ⟨_, rfl⟩
  have HB : Hid (Below w.heap.size w W0) := by rw [hW0]; exact below1
  have HW := Lib.hid hW0
  clear hW0 h hl hm
  go_enter Try.func53, Try.ntmps53
  go_wp2_with fail
  rw [← HW.out]
  refine (HMy.out W0 HB.out).mono ?_
  rintro e w1 ⟨rfl, g1⟩
  have G1 := Lib.hid (belowT HB.out g1)
  clear g1
  go_wp2_with fail
  go_ret
  exact ⟨rfl, G1.out⟩

set_option maxRecDepth 100000 in
set_option maxHeartbeats 8000000 in
theorem stakeOf_yes (p : Option Addr) (n cp : Nat) (l : List UInt64) (mask : UInt64) (w : World) (h : SlE Enum w (.slice p n cp) l) (hl : l.length = n) (hmay : mayB l = true) :
    Calls Try.prog 53 #[.slice p n cp, .int .u64 (mask.toNat : Int)] w fun e w' => e = .returned (.int .u64 (ofS l mask : Int)) ∧ Below w.heap.size w w' := by
  have HMy : Hid (∀ W, Below w.heap.size w W → Calls Try.prog 24 #[.slice p n cp] W fun e w' => e = .returned (.bool true) ∧ Below W.heap.size W w') := fun W g => by
    have := stakeMay_n p n cp l W (slE_keep g h) hl
    rwa [hmay] at this
  have HS := Lib.hid h
  have HL := Lib.hid hl
  obtain ⟨z, hz⟩ : ∃ z, z = ofS l mask := ⟨_, rfl⟩
  obtain ⟨_, h2, h3⟩ := mayB_iff.1 hmay
  have HX1 : Hid (z = sumV (fn l) n (whoT mask)) := by
    show z = _
    rw [hz, ofS_yes hmay, hl]
    exact (who_of (fn l) mask (by omega)).symm
  have HX2 : Hid (∀ v, v < n → fn l v ≤ 1099511627776) := fun v hv => h3 v (by omega)
  have HX3 : Hid (n ≤ 8) := by show n ≤ 8; omega
  rw [← hz]
  obtain ⟨W0, hW0⟩ : ∃ W0, W0 = w.alloc (.cells #[.slice p n cp] 26) := ⟨_, rfl⟩
  have HB : Hid (Below w.heap.size w W0) := by rw [hW0]; exact below1
  have M0 : Hid (W0.heap[w.heap.size]? = some (.cells #[.slice p n cp] 26 (0, 0))) := by rw [hW0]; exact heap_alloc_last w _
  have HW := Lib.hid hW0
  have HE : Hid (∀ W, Calls Try.prog 77 #[.int .u64 (mask.toNat : Int)] W fun e w' => e = .returned (.func (.func 91) #[] #[.pointer (some ⟨W.heap.size, 0, none⟩)]) ∧ w' = W.alloc (.cells #[.int .u64 (mask.toNat : Int)] 28)) := fun W => stakeEach _ W
  have HD := Lib.hid (fun (w2 : World) (s0 D bt : Nat) (hs0 : s0 ≤ w2.heap.size) (hDb : D < bt) t0 => each_stops 2 (by omega) mask s0 D bt w2 hs0 hDb t0)
  obtain ⟨m, hm⟩ : ∃ m, m = (mask.toNat : Int) := ⟨_, rfl⟩
  rw [← hm] at HE HD
  rw [← hm]
  clear hW0 h hl hz hm hmay h2 h3
  refine callsIn_wide.1 (callsIn_of_wp_marks (n := 3) Try.func53 rfl trivial (wpIn_wide.2 ?_))
  simp only [Try.ntmps53, List.size_toArray, List.length_cons, List.length_nil, Nat.reduceAdd, Nat.reduceSub, Array.replicate_succ, Array.replicate_zero, List.push_toArray, List.append_toArray, List.nil_append, List.cons_append]
  go_wp2_with fail
  rw [← HW.out]
  refine (HMy.out W0 HB.out).mono ?_
  rintro e w1 ⟨rfl, g1⟩
  have G1 := Lib.hid (belowT HB.out g1)
  have M1 := Lib.hid (blk_keep g1 M0.out)
  clear g1
  obtain ⟨W1, hW1⟩ : ∃ W1, W1 = w1.alloc (.cells #[.int .u64 0] 28) := ⟨_, rfl⟩
  have HB1 : Hid (Below w1.heap.size w1 W1) := by rw [hW1]; exact below1
  have M2 : Hid (W1.heap[w1.heap.size]? = some (.cells #[.int .u64 0] 28 (0, 0))) := by rw [hW1]; exact heap_alloc_last w1 _
  have HZ1 : Hid (W1.heap.size = w1.heap.size + 1) := by show _ = _; rw [hW1]; simp
  have HW1 := Lib.hid hW1
  clear hW1
  go_wp2_with fail
  rw [← HW1.out]
  refine (HE.out W1).mono ?_
  rintro e w2 ⟨rfl, hw2⟩
  have hB2 : Below W1.heap.size W1 w2 := by rw [hw2]; exact below1
  have t0 : w2.heap[W1.heap.size]? = some (.cells #[.int .u64 m] 28 (0, 0)) := by rw [hw2]; exact heap_alloc_last W1 _
  have hz2 : w2.heap.size = W1.heap.size + 1 := by rw [hw2]; simp
  have HBw : Hid (Below w.heap.size w w2) := belowT G1.out (belowT HB1.out hB2)
  have HSZ : Hid (w.heap.size < w1.heap.size ∧ w1.heap.size < W1.heap.size ∧ W1.heap.size < w2.heap.size) := by
    have h1 := (Array.getElem?_eq_some_iff.1 M1.out).1
    show _ ∧ _
    have := HZ1.out
    omega
  have HDn := Lib.hid (HD.out w2 w.heap.size w1.heap.size W1.heap.size (by have := HSZ.out; omega) (by have := HSZ.out; omega) t0)
  have HKb : Hid (w2.heap[w.heap.size]? = some (.cells #[.slice p n cp] 26 (0, 0))) := blk_keep (belowT HB1.out hB2) M1.out
  have HKs : Hid (w2.heap[w1.heap.size]? = some (.cells #[.int .u64 0] 28 (0, 0))) := blk_keep hB2 M2.out
  clear hw2 hB2 t0 hz2 HD HE
  go_wp2_with fail
  refine (wpIn_wide (n := 3)).1 ?_
  have HN : Hid ((whoT mask).length ≤ 64) := whoT_len mask
  refine wpIn_rangeFunc_ownF (w0 := w2) rfl (by omega) (gf := 91) (lb := #[.pointer (some ⟨W1.heap.size, 0, none⟩)]) rfl trivial (entersE Try.func91 (by kernel_rfl) (by kernel_rfl))
    HDn.out butK_t (butK_b (by have := HSZ.out; omega) (Nat.le_refl _)) (Below.refl _ _) (fun _ => rfl)
    (fun pre W => W.heap[w1.heap.size]? = some (.cells #[.int .u64 (sumV (fn l) n (pre.map Subtype.val) : Int)] 28 (0, 0)) ∧ But w.heap.size w2.heap.size w1.heap.size w2 W)
    (fun c pre W => W.heap[w1.heap.size]? = some (.cells #[.int .u64 (sumV (fn l) n (pre.map Subtype.val) : Int)] 28 (0, 0)) ∧ But w.heap.size w2.heap.size w1.heap.size w2 W ∧ (c = .exit 0 ∧ ∃ ys x, pre.map Subtype.val = ys ++ [x] ∧ n ≤ x))
    (OwnFrom.and (blk_own _ (by have := HSZ.out; omega)) (But.own (Nat.le_refl _) (Nat.le_refl _) (by have := HSZ.out; omega)))
    (fun c => OwnFrom.and (blk_own _ (by have := HSZ.out; omega)) (OwnFrom.and (But.own (Nat.le_refl _) (Nat.le_refl _) (by have := HSZ.out; omega)) (fun _ _ _ _ h _ _ => h)))
    ⟨HKs.out, But.refl _ _ _ _⟩ ?a1 ?assign ?body ?done ?stop
  case assign =>
    intro lo x W K hK
    gi_wp2
    exact hK
  case body =>
    rintro lo pre x W ⟨hp, hB⟩ hlen
    obtain ⟨k, hk⟩ := x
    have HP := Lib.hid hp
    have HBW := Lib.hid hB
    have HBB : Hid (W.heap[w.heap.size]? = some (.cells #[.slice p n cp] 26 (0, 0))) := hB.blk (by have := HSZ.out; omega) (by have := HSZ.out; omega) HKb.out
    have HSL : Hid (SlE Enum W (.slice p n cp) l) := slE_keep (HBw.out.trans hB.below) HS.out
    obtain ⟨c1, c2⟩ := cell_of_box hp
    have b1 := (cell_of_box HBB.out).1
    by_cases hkn : k < n
    · have a0 : decide ((n : Int) ≤ (k : Int)) = false := decide_eq_false (by omega)
      have a0' : decide (n ≤ k) = false := decide_eq_false (by omega)
      have i0 : (0 : Int) ≤ (k : Int) := by omega
      have i1 : (k : Int) < (n : Int) := by omega
      have HE2 : Hid (sumV (fn l) n ((pre ++ [(⟨k, hk⟩ : { x : Nat // x ∈ whoT mask })]).map Subtype.val) = sumV (fn l) n (pre.map Subtype.val) + fn l k) := by
        show _ = _
        rw [List.map_append, List.map_cons, List.map_nil, sumV_yes _ hkn]
      have hs1 : sumV (fn l) n (pre.map Subtype.val) ≤ 70368744177664 := sumV_lt HX2.out (by rw [List.length_map]; have := HN.out; omega)
      have hs2 := HX2.out k hkn
      obtain ⟨b2, o2, rfl, q2, x2⟩ := nums_ptr HSL.out (by have := HL.out; omega)
      have y2 := nums_cell x2 (i := k) (by have := HL.out; omega)
      obtain ⟨s, hs⟩ : ∃ s, s = sumV (fn l) n (pre.map Subtype.val) := ⟨_, rfl⟩
      obtain ⟨y, hy⟩ : ∃ y, y = fn l k := ⟨_, rfl⟩
      rw [← hs] at HP HE2 hs1 c1
      rw [← hy] at y2 hs2 HE2
      have u2 : (s : Int) + (y : Int) < 18446744073709551616 := by omega
      have HU : Hid (IntKind.u64.wrap ((s : Int) + (y : Int)) = ((s + y : Nat) : Int)) := by show _ = _; rw [IntKind.wrap_u64]; omega
      clear hp hB hlen hkn x2 q2 hs hy hs1 hs2 u2
      have hmix : Try.prog.follows .mixedOrders = true := by kernel_rfl
      gi_wp2
      gi_region_with_o fail
      all_goals (
        gi_wp2
        rw [HU.out]
        refine ⟨(KeepsOthers.drew W).trans (KeepsOthers.setCell _ _ _), (But.of_below (belowD (Below.refl _ _) 1) (by have := HSZ.out; omega)).setCell (by have := HSZ.out; omega) _, ?_, (HBW.out.then (belowD (Below.refl _ _) 1) (by have := HSZ.out; omega) HBW.out.below.size).setCell (by have := HSZ.out; omega) _⟩
        show _ = some (Obj.cells #[.int .u64 (sumV (fn l) n ((pre ++ [(⟨k, hk⟩ : { x : Nat // x ∈ whoT mask })]).map Subtype.val) : Int)] 28 (0, 0))
        rw [HE2.out]
        exact box_set (W := W.drew) HP.out _)
    · have a0 : decide ((n : Int) ≤ (k : Int)) = true := decide_eq_true (by omega)
      have a0' : decide (n ≤ k) = true := decide_eq_true (by omega)
      have HE2 : Hid (sumV (fn l) n ((pre ++ [(⟨k, hk⟩ : { x : Nat // x ∈ whoT mask })]).map Subtype.val) = sumV (fn l) n (pre.map Subtype.val)) := by
        show _ = _
        rw [List.map_append, List.map_cons, List.map_nil, sumV_no _ (show n ≤ k by omega)]
      have HNK : Hid (n ≤ k) := by show n ≤ k; omega
      clear hp hB hlen hkn
      gi_wp2
      refine ⟨KeepsOthers.refl _, ?_, HBW.out, rfl, pre.map Subtype.val, k, ?_, HNK.out⟩
      · show _ = some (Obj.cells #[.int .u64 (sumV (fn l) n ((pre ++ [(⟨k, hk⟩ : { x : Nat // x ∈ whoT mask })]).map Subtype.val) : Int)] 28 (0, 0))
        rw [HE2.out]
        exact HP.out
      · show ((pre ++ [(⟨k, hk⟩ : { x : Nat // x ∈ whoT mask })]).map Subtype.val) = _
        rw [List.map_append, List.map_cons, List.map_nil]
  case done =>
    rintro D ys W hD hys ⟨hp, hB⟩ hK
    have hX : Hid (sumV (fn l) n (ys.map Subtype.val) = z) := by show _ = z; rw [hys, HX1.out]
    rw [hX.out] at hp
    have c1 := (cell_of_box hp).1
    have HBf := Lib.hid (HBw.out.trans hB.below)
    have HKD := Lib.hid hK
    have hDD : Hid (w.heap.size ≤ D) := by show _ ≤ _; have := HSZ.out; omega
    clear hp hB hK hys hD
    go_wp2_with fail
    exact leave_M (v := .int .u64 z) HKD.out ⟨by simp [results, Try.results53, go_sem], rfl, below_shut HKD.out HBf.out hDD.out⟩
  case stop =>
    rintro D c pre W hD hpre ⟨hp, hB, rfl, ys, x, hys, hx⟩ hK
    have hX : Hid (sumV (fn l) n (pre.map Subtype.val) = z) := by
      show _ = z
      rw [hys] at hpre ⊢
      rw [sumV_no _ hx, HX1.out]
      exact (sumV_stop (who_sorted mask) hpre hx).symm
    rw [hX.out] at hp
    have c1 := (cell_of_box hp).1
    have HBf := Lib.hid (HBw.out.trans hB.below)
    have HKD := Lib.hid hK
    have hDD : Hid (w.heap.size ≤ D) := by show _ ≤ _; have := HSZ.out; omega
    clear hp hB hK hys hD hpre hx
    gi_wp2
    go_wp2_with fail
    exact leave_M (v := .int .u64 z) HKD.out ⟨by simp [results, Try.results53, go_sem], rfl, below_shut HKD.out HBf.out hDD.out⟩
theorem stakeOf : StOfC := fun v l m w h => by
  have k := h
  obtain ⟨p, cp, rfl, _⟩ := slE_shape h
  cases e : mayB l
  · have := stakeOf_no p _ cp l (m.toNat : Int) w k rfl e
    rwa [ofS_no e]
  · exact stakeOf_yes p _ cp l m w k rfl e
theorem enters_stakeOf : ∀ args w, (callFunc 53 args).run Try.prog w = .ok (.enter 53 args) w := entersE Try.func53 (by kernel_rfl) (by kernel_rfl)

set_option maxHeartbeats 1000000 in
theorem stakeTotal : StTotalC := fun v l w h => by
  have HC := Lib.hid (stakeOf v l allM w h)
  rw [show ((allM.toNat : Nat) : Int) = 18446744073709551615 from rfl] at HC
  obtain ⟨t, ht⟩ : ∃ t, t = totS l := ⟨_, rfl⟩
  rw [show ofS l allM = t from ht.symm] at HC
  rw [← ht]
  clear h ht
  go_enter Try.func54, Try.ntmps54
  go_wp2_with fail
  refine HC.out.mono ?_
  rintro e w1 ⟨rfl, g⟩
  go_wp2_with fail
  go_ret
  exact ⟨rfl, g⟩
theorem enters_stakeTotal : ∀ args w, (callFunc 54 args).run Try.prog w = .ok (.enter 54 args) w := entersE Try.func54 (by kernel_rfl) (by kernel_rfl)
end Go.Proofs.Ytlhnjaeocoafnaa
