/-
  The document's weights: what comes and goes at one place; are two lists the same?
-/
import Derived.Test.YtonfmddjlhgglaaR01Add
namespace Go.Proofs.Ytonfmddjlhgglaa
open Go.RowKit

def oneV (a b c : Nat) : Nat := if oneOk a b c = true then a + b - c else 0
set_option maxHeartbeats 1000000 in
theorem ref08One (a b c : Nat) (ha : a < 18446744073709551616) (hb : b < 18446744073709551616) (hc : c < 18446744073709551616) (w : World) :
    Calls Try.prog 26 #[.int .u64 (a : Int), .int .u64 (b : Int), .int .u64 (c : Int)] w fun e w' => e = .returned (.tuple #[.int .u64 (oneV a b c : Int), .bool (oneOk a b c)]) ∧ Below w.heap.size w w' := by
  have ub : (b : Int) < 18446744073709551616 := by omega
  have uc : (c : Int) < 18446744073709551616 := by omega
  by_cases h : c ≤ b
  · have HA := Lib.hid (ref01Add a (b - c) ha (by omega) w)
    have e1 : addOk a (b - c) = oneOk a b c := by unfold addOk oneOk; congr 1; rw [eq_iff_iff]; omega
    have e2 : addV a (b - c) = oneV a b c := by
      unfold addV oneV oneOk
      by_cases h2 : a + (b - c) < 18446744073709551616
      · rw [if_pos h2, if_pos (decide_eq_true (by omega))]; omega
      · rw [if_neg h2, if_neg (by rw [decide_eq_true_iff]; omega)]
    rw [e1, e2, show ((b - c : Nat) : Int) = (b : Int) - (c : Int) by omega] at HA
    have t1 : decide ((c : Int) ≤ (b : Int)) = true := decide_eq_true (by omega)
    have t1' : decide (c ≤ b) = true := decide_eq_true h
    have u1 : (0 : Int) ≤ (b : Int) - (c : Int) := by omega
    clear h ha hb hc e1 e2
    go_enter Try.func26, Try.ntmps26
    go_wp2_with fail
    refine HA.out.mono ?_
    rintro e w1 ⟨rfl, g⟩
    go_wp2_with fail
    go_ret2
    exact ⟨rfl, g⟩
  · have HA := Lib.hid (ref01Sub a (c - b) ha w)
    have e1 : lessOk a (c - b) = oneOk a b c := by unfold lessOk oneOk; congr 1; rw [eq_iff_iff]; omega
    have e2 : lessV a (c - b) = oneV a b c := by
      unfold lessV oneV oneOk
      by_cases h2 : c - b ≤ a
      · rw [if_pos h2, if_pos (decide_eq_true (by omega))]; omega
      · rw [if_neg h2, if_neg (by rw [decide_eq_true_iff]; omega)]
    rw [e1, e2, show ((c - b : Nat) : Int) = (c : Int) - (b : Int) by omega] at HA
    have t1 : decide ((c : Int) ≤ (b : Int)) = false := decide_eq_false (by omega)
    have t1' : decide (c ≤ b) = false := decide_eq_false h
    have u1 : (0 : Int) ≤ (c : Int) - (b : Int) := by omega
    clear h ha hb hc e1 e2
    go_enter Try.func26, Try.ntmps26
    go_wp2_with fail
    refine HA.out.mono ?_
    rintro e w1 ⟨rfl, g⟩
    go_wp2_with fail
    go_ret2
    exact ⟨rfl, g⟩
theorem enters_ref08One : ∀ args w, (callFunc 26 args).run Try.prog w = .ok (.enter 26 args) w := entersE Try.func26 (by kernel_rfl) (by kernel_rfl)

/-! ### are two lists the same? -/
set_option maxRecDepth 100000 in
set_option maxHeartbeats 1000000 in
theorem numsSame_ne (p q : Option Addr) (n m cl ck : Nat) (w : World) (hl : n ≠ m) :
    Calls Try.prog 14 #[.slice p n cl, .slice q m ck] w fun e w' => e = .returned (.bool false) ∧ Below w.heap.size w w' := by
  have e1 : ((n : Int) == (m : Int)) = false := by simp; omega
  clear hl
  go_enter Try.func14, Try.ntmps14
  go_wp2_with fail
  go_ret
  exact ⟨rfl, Below.refl _ _⟩

set_option maxRecDepth 100000 in
set_option maxHeartbeats 1000000 in
theorem numsSame_eq (p q : Option Addr) (n cl ck : Nat) (l k : List UInt64) (w : World) (h : SlE Enum w (.slice p n cl) l) (h' : SlE Enum w (.slice q n ck) k) (hl : l.length = n) (hk : k.length = n) (hn : n ≤ 1000) :
    Calls Try.prog 14 #[.slice p n cl, .slice q n ck] w fun e w' => e = .returned (.bool (decide (l = k))) ∧ Below w.heap.size w w' := by
  have HS := Lib.hid h
  have HT := Lib.hid h'
  have HL := Lib.hid hl
  have HK := Lib.hid hk
  have HN := Lib.hid hn
  obtain ⟨r, hr⟩ : ∃ r, r = decide (l = k) := ⟨_, rfl⟩
  rw [← hr]
  have HR := Lib.hid hr
  clear h h' hl hk hn hr
  go_enter Try.func14, Try.ntmps14
  go_wp2_with fail
  go_loopw [5] (fun i wr => ∃ j : Nat, j ≤ n ∧ i = .int .i64 (j : Int) ∧ (∀ x, x < j → fn l x = fn k x) ∧ Below w.heap.size w wr) (fun i _ => n - (intOf i).toNat)
  case atStart => exact ⟨0, Nat.zero_le _, rfl, fun x hx => absurd hx (Nat.not_lt_zero _), Below.refl _ _⟩
  case round =>
    obtain ⟨j, hj, rfl, hx, hb⟩ := hrel
    have HX := Lib.hid hx
    have HB := Lib.hid hb
    clear hx hb
    by_cases hlt : j < n
    · have i0 : (0 : Int) ≤ (j : Int) := by omega
      have i1 : (j : Int) < (n : Int) := by omega
      have u1 : (j : Int) + 1 < 10000 := by have := HN.out; omega
      obtain ⟨b1, o1, rfl, q1, x1⟩ := nums_ptr (slE_keep HB.out HS.out) (by have := HL.out; omega)
      obtain ⟨b2, o2, rfl, q2, x2⟩ := nums_ptr (slE_keep HB.out HT.out) (by have := HK.out; omega)
      have y1 := nums_cell x1 (i := j) (by have := HL.out; omega)
      have y2 := nums_cell x2 (i := j) (by have := HK.out; omega)
      clear x1 x2 q1 q2
      obtain ⟨yl, hyl⟩ : ∃ y, y = fn l j := ⟨_, rfl⟩
      obtain ⟨yk, hyk⟩ : ∃ y, y = fn k j := ⟨_, rfl⟩
      rw [← hyl] at y1
      rw [← hyk] at y2
      have HYl := Lib.hid hyl
      have HYk := Lib.hid hyk
      clear hyl hyk
      by_cases he : yl = yk
      · have HE : Hid (fn l j = fn k j) := by show _ = _; rw [← HYl.out, ← HYk.out]; exact he
        rw [he] at y1
        clear he
        go_wp2_with fail
        go_quiet (fail)
        go_wp2_with fail
        go_roundw
        case rel => exact ⟨j + 1, by omega, by go_num, fun x hx => by
          rcases Nat.lt_succ_iff_lt_or_eq.1 hx with h | rfl
          · exact HX.out x h
          · exact HE.out, belowD HB.out _⟩
        case measure => simp [intOf]; omega
      · have hR : Hid (r = false) := by
          show r = false
          rw [HR.out, decide_eq_false_iff_not]
          intro e
          exact he (by rw [HYl.out, HYk.out, e])
        have t1 : ((yl : Int) == (yk : Int)) = false := by rw [beq_eq_false_iff_ne]; omega
        have t1' : ((yl : Int) != (yk : Int)) = true := by rw [bne_iff_ne]; omega
        clear he
        go_wp2_with fail
        go_quiet (fail)
        go_wp2_with fail
        go_ret
        exact ⟨by rw [hR.out]; first | done | rfl, belowD HB.out _⟩
    · obtain rfl : j = n := by omega
      have hR : Hid (r = true) := by
        show r = true
        rw [HR.out, decide_eq_true_iff]
        exact fn_ext (by rw [HL.out, HK.out]) fun i hi => HX.out i (by have := HK.out; omega)
      go_wp2_with fail
      go_ret
      exact ⟨by rw [hR.out]; first | done | rfl, HB.out⟩
/-- Are two lists the same? -/
theorem ref08Same (v u : Value) (l k : List UInt64) (w : World) (h : SlE Enum w v l) (h' : SlE Enum w u k) (hn : l.length ≤ 1000) :
    Calls Try.prog 14 #[v, u] w fun e w' => e = .returned (.bool (decide (l = k))) ∧ Below w.heap.size w w' := by
  have hs := h
  have ht := h'
  obtain ⟨p, cl, rfl, _⟩ := slE_shape h
  obtain ⟨q, ck, rfl, _⟩ := slE_shape h'
  by_cases e : l.length = k.length
  · rw [← e] at ht ⊢
    exact numsSame_eq p q l.length cl ck l k w hs ht rfl e.symm hn
  · rw [decide_eq_false (fun he => e (by rw [he]))]
    exact numsSame_ne p q _ _ cl ck w e
theorem enters_ref08Same : ∀ args w, (callFunc 14 args).run Try.prog w = .ok (.enter 14 args) w := entersE Try.func14 (by kernel_rfl) (by kernel_rfl)
end Go.Proofs.Ytonfmddjlhgglaa
