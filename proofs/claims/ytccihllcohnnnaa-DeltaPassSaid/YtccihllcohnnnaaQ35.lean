/-
  Package stake: slices.Max of numbers, and May: walked.
  Package delta: fit, walked.
-/
import Derived.Test.YtccihllcohnnnaaQ33
import Derived.Test.YtccihllcohnnnaaQ34
import Derived.Laws.ShiftsVarLaws
import Derived.Test.YtccihllcohnnnaaQ13
import Derived.Test.YtccihllcohnnnaaQ16
import Derived.Test.YtccihllcohnnnaaQ31
import Derived.Test.YtccihllcohnnnaaQ20
namespace Go.Proofs.Ytccihllcohnnnaa
open Go.RowKit
set_option maxRecDepth 100000

/-- The greatest of the first n. -/
def mxU (f : Nat → Nat) : Nat → Nat
  | 0 => 0
  | n + 1 => if mxU f n < f n then f n else mxU f n
theorem mxU_le (f : Nat → Nat) (B : Nat) : ∀ n, mxU f n ≤ B ↔ ∀ i, i < n → f i ≤ B
  | 0 => ⟨fun _ i hi => absurd hi (Nat.not_lt_zero _), fun _ => Nat.zero_le _⟩
  | n + 1 => by
    have ih := mxU_le f B n
    simp only [mxU]
    constructor
    · intro h i hi
      split at h
      · rename_i hc
        rcases Nat.lt_succ_iff_lt_or_eq.1 hi with h1 | rfl
        · exact ih.1 (by omega) i h1
        · exact h
      · rename_i hc
        rcases Nat.lt_succ_iff_lt_or_eq.1 hi with h1 | rfl
        · exact ih.1 h i h1
        · omega
    · intro h
      have h1 := ih.2 (fun i hi => h i (by omega))
      have h2 := h n (by omega)
      split <;> omega
theorem mxU_yes {f : Nat → Nat} {n : Nat} (h : mxU f n < f n) : mxU f (n + 1) = f n := if_pos h
theorem mxU_no {f : Nat → Nat} {n : Nat} (h : ¬ mxU f n < f n) : mxU f (n + 1) = mxU f n := if_neg h

set_option maxRecDepth 100000 in
set_option maxHeartbeats 1000000 in
theorem slicesMax_n (p : Option Addr) (n cp : Nat) (l : List UInt64) (w : World) (h : SlE Enum w (.slice p n cp) l) (hl : l.length = n) (h1 : 1 ≤ n) (hn : n ≤ 1000) :
    Calls Try.prog 55 #[.slice p n cp] w fun e w' => e = .returned (.int .u64 (mxU (fn l) n : Int)) ∧ Below w.heap.size w w' := by
  have HS := Lib.hid h
  have HL := Lib.hid hl
  have HN := Lib.hid hn
  have H1 := Lib.hid h1
  have HZ : Hid (mxU (fn l) 1 = fn l 0) := by
    show mxU (fn l) 1 = fn l 0
    by_cases h0 : mxU (fn l) 0 < fn l 0
    · exact mxU_yes h0
    · rw [mxU_no h0]; have : mxU (fn l) 0 = 0 := rfl; omega
  obtain ⟨b1, o1, rfl, q1, x1⟩ := nums_ptr h (by omega)
  have y1 := nums_cell x1 (i := 0) (by omega)
  have t0 : decide ((n : Int) < 1) = false := decide_eq_false (by omega)
  have t0' : decide (n < 1) = false := decide_eq_false (by omega)
  have t0'' : decide (n = 0) = false := decide_eq_false (by omega)
  have i1 : (0 : Int) < (n : Int) := by omega
  have i1' : 0 < n := by omega
  clear h hl hn h1 x1 q1
  simp only [Nat.add_zero] at y1
  go_enter Try.func55, Try.ntmps55
  go_wp2_with fail
  clear y1 t0 t0' t0'' i1 i1'
  go_loopw [3, 4] (fun m i wr => ∃ j : Nat, 1 ≤ j ∧ j ≤ n ∧ i = .int .i64 (j : Int) ∧ m = .int .u64 (mxU (fn l) j : Int) ∧ wr = w) (fun _ i _ => n - (intOf i).toNat)
  case atStart => exact ⟨1, Nat.le_refl _, H1.out, rfl, by rw [HZ.out], rfl⟩
  case round =>
    obtain ⟨j, hj1, hj, rfl, rfl, rfl⟩ := hrel
    have HJ1 := Lib.hid hj1
    clear hj1
    by_cases hlt : j < n
    · have i0 : (0 : Int) ≤ (j : Int) := by omega
      have i1 : (j : Int) < (n : Int) := by omega
      have u1 : (j : Int) + 1 < 10000 := by have := HN.out; omega
      have d0 : decide ((j : Int) < (n : Int)) = true := decide_eq_true i1
      have d0' : decide (j < n) = true := decide_eq_true hlt
      obtain ⟨b1, o1, e1, q1, x1⟩ := nums_ptr HS.out (by have := HL.out; omega)
      cases e1
      have y1 := nums_cell x1 (i := j) (by have := HL.out; omega)
      have HLT := Lib.hid hlt
      by_cases hc : mxU (fn l) j < fn l j
      · have HX := Lib.hid (mxU_yes hc)
        obtain ⟨x, hx⟩ : ∃ x, x = mxU (fn l) j := ⟨_, rfl⟩
        obtain ⟨y, hy⟩ : ∃ y, y = fn l j := ⟨_, rfl⟩
        rw [← hx] at hc
        rw [← hx]
        rw [← hy] at hc y1 HX
        have c1 : (x : Int) < (y : Int) := by omega
        have HC := Lib.hid hc
        clear hlt x1 q1 hx hy
        go_wp2_with fail
        go_roundw
        case rel => exact ⟨j + 1, by have := HJ1.out; omega, HLT.out, by go_num, by rw [HX.out], by first | rfl | trivial⟩
        case measure => simp [intOf]; have := HLT.out; omega
      · have HX := Lib.hid (mxU_no hc)
        obtain ⟨x, hx⟩ : ∃ x, x = mxU (fn l) j := ⟨_, rfl⟩
        obtain ⟨y, hy⟩ : ∃ y, y = fn l j := ⟨_, rfl⟩
        rw [← hx] at hc HX
        rw [← hx]
        rw [← hy] at hc y1
        have c1 : ¬ (x : Int) < (y : Int) := by omega
        have HC := Lib.hid hc
        clear hlt x1 q1 hx hy
        go_wp2_with fail
        go_roundw
        case rel => exact ⟨j + 1, by have := HJ1.out; omega, HLT.out, by go_num, by rw [HX.out], by first | rfl | trivial⟩
        case measure => simp [intOf]; have := HLT.out; omega
    · obtain rfl : j = n := by omega
      clear hlt
      go_wp2_with fail
      go_ret
      exact ⟨rfl, Below.refl _ _⟩
theorem enters_slicesMax : ∀ args w, (callFunc 55 args).run Try.prog w = .ok (.enter 55 args) w := entersE Try.func55 (by kernel_rfl) (by kernel_rfl)

set_option maxRecDepth 100000 in
set_option maxHeartbeats 1000000 in
theorem stakeMay_n (p : Option Addr) (n cp : Nat) (l : List UInt64) (w : World) (h : SlE Enum w (.slice p n cp) l) (hl : l.length = n) :
    Calls Try.prog 37 #[.slice p n cp] w fun e w' => e = .returned (.bool (mayB l)) ∧ Below w.heap.size w w' := by
  by_cases h0 : 0 < n
  · have a0 : decide ((0 : Int) < (n : Int)) = true := decide_eq_true (by omega)
    have a0' : decide (0 < n) = true := decide_eq_true h0
    by_cases h8 : n ≤ 8
    · have a8 : decide ((n : Int) ≤ 8) = true := decide_eq_true (by omega)
      have a8' : decide (n ≤ 8) = true := decide_eq_true h8
      have HM := Lib.hid (slicesMax_n p n cp l w h hl (by omega) (by omega))
      have HE : Hid (mayB l = decide (mxU (fn l) n ≤ 1099511627776)) := by
        show _ = _
        rw [Bool.eq_iff_iff, mayB_iff, decide_eq_true_iff, mxU_le, hl]
        exact ⟨fun h => h.2.2, fun h => ⟨by omega, h8, h⟩⟩
      generalize mxU (fn l) n = m at *
      obtain ⟨r, hr⟩ : ∃ r, r = decide (m ≤ 1099511627776) := ⟨_, rfl⟩
      have d0 : decide ((m : Int) ≤ 1099511627776) = r := by rw [hr]; congr 1; rw [eq_iff_iff]; omega
      have d0' : decide (m ≤ 1099511627776) = r := hr.symm
      rw [HE.out, d0']
      clear h0 h8 h hl hr HE
      go_enter Try.func37, Try.ntmps37
      go_wp2_with fail
      refine HM.out.mono ?_
      rintro e w1 ⟨rfl, g⟩
      go_wp2_with fail
      go_ret
      exact ⟨rfl, g⟩
    · have a8 : decide ((n : Int) ≤ 8) = false := decide_eq_false (by omega)
      have a8' : decide (n ≤ 8) = false := decide_eq_false h8
      rw [show mayB l = false by rw [← Bool.not_eq_true, mayB_iff]; omega]
      clear h0 h8 h hl
      go_enter Try.func37, Try.ntmps37
      go_wp2_with fail
      go_ret
      exact ⟨rfl, Below.refl _ _⟩
  · obtain rfl : n = 0 := by omega
    rw [show mayB l = false by rw [← Bool.not_eq_true, mayB_iff]; omega]
    clear h0 h hl
    go_enter Try.func37, Try.ntmps37
    go_wp2_with fail
    go_ret
    exact ⟨rfl, Below.refl _ _⟩
theorem stakeMay : StMayC := fun v l w h => by
  have k := h
  obtain ⟨p, cp, rfl, _⟩ := slE_shape h
  exact stakeMay_n p _ cp l w k rfl
end Go.Proofs.Ytccihllcohnnnaa
namespace Go.Proofs.Ytccihllcohnnnaa
open Go.RowKit
set_option maxRecDepth 100000

set_option maxRecDepth 100000 in
set_option maxHeartbeats 16000000 in
theorem progFit_n (p q r : Option Addr) (n cp m cq k cr : Nat) (l : List Nd) (v : Vt) (bal : List UInt64) (w : World) (h : SlE Ene w (.slice p n cp) l) (h1 : SlE Elt w (.slice q m cq) v.l) (h2 : SlE Enum w (.slice r k cr) bal) (hv : v.l.length = m) (hb : bal.length = k) :
    Calls Try.prog 28 #[.agg (tr ⟨⟨p, n, cp⟩⟩), .agg (vo ⟨⟨q, m, cq⟩, v.out⟩), .slice r k cr] w fun e w' => e = .returned (.bool (fitB l v bal)) ∧ Below w.heap.size w w' := by
  have HA := Lib.hid (fun W (g : Below w.heap.size w W) => treeMay ⟨p, n, cp⟩ l W (slE_keep g h))
  have HV := Lib.hid (fun W (g : Below w.heap.size w W) => voteMay ⟨q, m, cq⟩ v W (slE_keep g h1))
  have HC := Lib.hid (fun W (g : Below w.heap.size w W) => stakeMay (.slice r k cr) bal W (slE_keep g h2))
  obtain ⟨a, ha⟩ : ∃ a, a = decide (MayT l) := ⟨_, rfl⟩
  obtain ⟨b, hb'⟩ : ∃ b, b = mayV v := ⟨_, rfl⟩
  obtain ⟨c, hc⟩ : ∃ c, c = mayB bal := ⟨_, rfl⟩
  obtain ⟨x, hx⟩ : ∃ x, x = ((m : Int) == (k : Int)) := ⟨_, rfl⟩
  obtain ⟨z, hz⟩ : ∃ z, z = fitB l v bal := ⟨_, rfl⟩
  have HZ : Hid (z = (a && (b && (c && x)))) := by
    show z = _
    rw [hz, ha, hb', hc, hx]
    unfold fitB
    have : decide (v.l.length = bal.length) = ((m : Int) == (k : Int)) := by rw [Bool.eq_iff_iff, decide_eq_true_iff, beq_iff_eq, hv, hb]; omega
    rw [this]
  rw [← hz]
  rw [← ha] at HA
  rw [← hb'] at HV
  rw [← hc] at HC
  have tx : ((m : Int) == (k : Int)) = x := hx.symm
  obtain ⟨W0, hW0⟩ : ∃ W0, W0 = (w.alloc (.cells (tr ⟨⟨p, n, cp⟩⟩) 24)).alloc (.cells (vo ⟨⟨q, m, cq⟩, v.out⟩) 28) := ⟨_, rfl⟩
  obtain ⟨hB, k0, k1, hz0⟩ := heap2 w _ _ _ _ W0 hW0
  have HB := Lib.hid hB
  have HW := Lib.hid hW0
  have K0 := Lib.hid k0
  have K1 := Lib.hid k1
  clear hW0 h h1 h2 hv hb hB k0 k1 hz0 ha hb' hc hx hz
  go_enter Try.func28, Try.ntmps28
  have z1 := (tr_cells K0.out).2.1
  go_wp2_with fail
  rw [← HW.out]
  go_wp2_with fail
  refine (HA.out W0 HB.out).mono ?_
  rintro e w1 ⟨rfl, g1⟩
  have G1 := Lib.hid (belowT HB.out g1)
  have N1 := Lib.hid (blk_keep g1 K1.out)
  clear g1 z1
  have y1 := (vo_cells N1.out).2.2.1
  cases a
  · have hX : Hid (z = false) := HZ.out
    go_wp2_with fail
    go_ret
    exact ⟨by rw [hX.out]; first | done | rfl, G1.out⟩
  · go_wp2_with fail
    refine (HV.out w1 G1.out).mono ?_
    rintro e w2 ⟨rfl, g2⟩
    have G2 := Lib.hid (belowT G1.out g2)
    have N2 := Lib.hid (blk_keep g2 N1.out)
    clear g2 y1
    cases b
    · have hX : Hid (z = false) := HZ.out
      go_wp2_with fail
      go_ret
      exact ⟨by rw [hX.out]; first | done | rfl, G2.out⟩
    · go_wp2_with fail
      refine (HC.out w2 G2.out).mono ?_
      rintro e w3 ⟨rfl, g3⟩
      have G3 := Lib.hid (belowT G2.out g3)
      have N3 := Lib.hid (blk_keep g3 N2.out)
      clear g3
      have y0 := (vo_cells N3.out).1
      dsimp only at y0
      rw [sv_mk] at y0
      cases c
      · have hX : Hid (z = false) := HZ.out
        go_wp2_with fail
        go_ret
        exact ⟨by rw [hX.out]; first | done | rfl, G3.out⟩
      · have hX : Hid (z = x) := HZ.out
        go_wp2_with fail
        go_ret
        exact ⟨by rw [hX.out]; first | done | rfl, G3.out⟩
theorem enters_progFit : ∀ args w, (callFunc 28 args).run Try.prog w = .ok (.enter 28 args) w := entersE Try.func28 (by kernel_rfl) (by kernel_rfl)
theorem progFit (s t : SlV) (u : Value) (l : List Nd) (v : Vt) (bal : List UInt64) (w : World) (h : SlE Ene w (sv s) l) (h1 : SlE Elt w (sv t) v.l) (h2 : SlE Enum w u bal) :
    Calls Try.prog 28 #[.agg (tr ⟨s⟩), .agg (vo ⟨t, v.out⟩), u] w fun e w' => e = .returned (.bool (fitB l v bal)) ∧ Below w.heap.size w w' := by

  have hv := sv_lenT h1
  obtain ⟨p, n, cp⟩ := s
  obtain ⟨q, m, cq⟩ := t
  dsimp only at hv
  obtain ⟨r, cr, rfl, _⟩ := slE_shape h2
  exact progFit_n p q r n cp m cq _ cr l v bal w h h1 h2 hv rfl
end Go.Proofs.Ytccihllcohnnnaa
