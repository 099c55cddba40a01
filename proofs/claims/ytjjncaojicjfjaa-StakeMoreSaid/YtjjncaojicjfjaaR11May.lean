/-
  The document's balances: May, walked.
-/
import Derived.Test.YtjjncaojicjfjaaR11Bit
namespace Go.Proofs.Ytjjncaojicjfjaa
open Go.RowKit

set_option maxRecDepth 100000 in
set_option maxHeartbeats 1000000 in
theorem ref11May_n (p : Option Addr) (n cp : Nat) (l : List UInt64) (w : World) (h : SlE Enum w (.slice p n cp) l) (hl : l.length = n) (hn : n ≤ 1000) :
    Calls Try.prog 13 #[.slice p n cp] w fun e w' => e = .returned (.bool (mayB l)) ∧ Below w.heap.size w w' := by
  have HS := Lib.hid h
  have HL := Lib.hid hl
  have HN := Lib.hid hn
  obtain ⟨r, hr⟩ : ∃ r, r = mayB l := ⟨_, rfl⟩
  rw [← hr]
  have HR := Lib.hid hr
  clear h hl hn hr
  go_enter Try.func13, Try.ntmps13
  go_wp2_with fail
  go_loopw [3] (fun i wr => ∃ j : Nat, j ≤ n ∧ i = .int .i64 (j : Int) ∧ (∀ x, x < j → fn l x ≤ 1099511627776) ∧ wr = w) (fun i _ => n - (intOf i).toNat)
  case atStart => exact ⟨0, Nat.zero_le _, rfl, fun x hx => absurd hx (Nat.not_lt_zero _), rfl⟩
  case round =>
    obtain ⟨j, hj, rfl, hx, rfl⟩ := hrel
    have HX := Lib.hid hx
    clear hx
    by_cases hlt : j < n
    · have i0 : (0 : Int) ≤ (j : Int) := by omega
      have i1 : (j : Int) < (n : Int) := by omega
      have u1 : (j : Int) + 1 < 10000 := by have := HN.out; omega
      obtain ⟨b1, o1, rfl, q1, x1⟩ := nums_ptr HS.out (by have := HL.out; omega)
      have y1 := nums_cell x1 (i := j) (by have := HL.out; omega)
      have HLT := Lib.hid hlt
      obtain ⟨y, hy⟩ : ∃ y, y = fn l j := ⟨_, rfl⟩
      rw [← hy] at y1
      have HY := Lib.hid hy
      clear x1 q1 hlt hy
      by_cases hb : 1099511627776 < y
      · have t0 : decide ((1099511627776 : Int) < (y : Int)) = true := decide_eq_true (by omega)
        have t0' : decide (1099511627776 < y) = true := decide_eq_true hb
        have hF : Hid (r = false) := by show r = false; rw [HR.out, ← Bool.not_eq_true]; intro e; have := (mayB_iff.1 e).2.2 j (by rw [HL.out]; exact HLT.out); rw [← HY.out] at this; omega
        clear hb
        go_wp2_with fail
        go_ret
        exact ⟨by rw [hF.out]; first | done | rfl, Below.refl _ _⟩
      · have t0 : decide ((1099511627776 : Int) < (y : Int)) = false := decide_eq_false (by omega)
        have t0' : decide (1099511627776 < y) = false := decide_eq_false hb
        have HB : Hid (y ≤ 1099511627776) := by show _ ≤ _; omega
        clear hb
        go_wp2_with fail
        go_roundw
        case rel => exact ⟨j + 1, HLT.out, by go_num, (fun x hx => by
          rcases Nat.lt_succ_iff_lt_or_eq.1 hx with h | rfl
          · exact HX.out x h
          · rw [← HY.out]; exact HB.out), by first | rfl | trivial⟩
        case measure => simp [intOf]; have := HLT.out; omega
    · obtain rfl : j = n := by omega
      clear hlt
      by_cases h1 : 1 ≤ j
      · have t1 : decide ((1 : Int) ≤ (j : Int)) = true := decide_eq_true (by omega)
        have t1' : decide (1 ≤ j) = true := decide_eq_true h1
        by_cases h8 : j ≤ 8
        · have t2 : decide ((j : Int) ≤ 8) = true := decide_eq_true (by omega)
          have t2' : decide (j ≤ 8) = true := decide_eq_true h8
          have hF : Hid (r = true) := by show r = true; rw [HR.out]; exact mayB_iff.2 ⟨by rw [HL.out]; exact h1, by rw [HL.out]; exact h8, fun i hi => HX.out i (by rw [← HL.out]; exact hi)⟩
          clear h1 h8
          go_wp2_with fail
          go_ret
          exact ⟨by rw [hF.out]; first | done | rfl, Below.refl _ _⟩
        · have t2 : decide ((j : Int) ≤ 8) = false := decide_eq_false (by omega)
          have t2' : decide (j ≤ 8) = false := decide_eq_false h8
          have hF : Hid (r = false) := by show r = false; rw [HR.out, ← Bool.not_eq_true]; intro e; have := (mayB_iff.1 e).2.1; rw [HL.out] at this; omega
          clear h1 h8
          go_wp2_with fail
          go_ret
          exact ⟨by rw [hF.out]; first | done | rfl, Below.refl _ _⟩
      · have t1 : decide ((1 : Int) ≤ (j : Int)) = false := decide_eq_false (by omega)
        have t1' : decide (1 ≤ j) = false := decide_eq_false h1
        have hF : Hid (r = false) := by show r = false; rw [HR.out, ← Bool.not_eq_true]; intro e; have := (mayB_iff.1 e).1; rw [HL.out] at this; omega
        clear h1
        go_wp2_with fail
        go_ret
        exact ⟨by rw [hF.out]; first | done | rfl, Below.refl _ _⟩
theorem ref11May (v : Value) (l : List UInt64) (w : World) (h : SlE Enum w v l) (hn : l.length ≤ 1000) :
    Calls Try.prog 13 #[v] w fun e w' => e = .returned (.bool (mayB l)) ∧ Below w.heap.size w w' := by
  have k := h
  obtain ⟨p, cp, rfl, _⟩ := slE_shape h
  exact ref11May_n p _ cp l w k rfl hn
theorem enters_ref11May : ∀ args w, (callFunc 13 args).run Try.prog w = .ok (.enter 13 args) w := entersE Try.func13 (by kernel_rfl) (by kernel_rfl)

end Go.Proofs.Ytjjncaojicjfjaa
