/-
  What waits, by the document: May, Next, Same, walked.
-/
import Derived.Test.YtljehgohcchocaaLateM
import Derived.Laws.Cover3
namespace Go.Proofs.Ytljehgohcchocaa
open Go.RowKit
set_option maxRecDepth 100000

set_option maxRecDepth 100000 in
set_option maxHeartbeats 1000000 in
theorem ref13May_n (p : Option Addr) (n cp : Nat) (l : List Aa) (w : World) (h : SlE Eaa w (.slice p n cp) l) (hl : l.length = n) (hn : n ≤ 1000) :
    Calls Try.prog 16 #[.slice p n cp] w fun e w' => e = .returned (.bool (mayA l)) ∧ Below w.heap.size w w' := by
  have HS := Lib.hid h
  have HL := Lib.hid hl
  have HN := Lib.hid hn
  obtain ⟨r, hr⟩ : ∃ r, r = mayA l := ⟨_, rfl⟩
  rw [← hr]
  have HR := Lib.hid hr
  clear h hl hn hr
  go_enter Try.func16, Try.ntmps16
  go_wp2_with fail
  go_loopw [3] (fun i wr => ∃ j : Nat, j ≤ n ∧ i = .int .i64 (j : Int) ∧ (∀ x, x < j → slA l x ≤ 1099511627776) ∧ wr = w) (fun i _ => n - (intOf i).toNat)
  case atStart => exact ⟨0, Nat.zero_le _, rfl, fun x hx => absurd hx (Nat.not_lt_zero _), rfl⟩
  case round =>
    obtain ⟨j, hj, rfl, hx, rfl⟩ := hrel
    have HX := Lib.hid hx
    clear hx
    by_cases hlt : j < n
    · have i0 : (0 : Int) ≤ (j : Int) := by omega
      have i1 : (j : Int) < (n : Int) := by omega
      have u1 : (j : Int) + 1 < 10000 := by have := HN.out; omega
      obtain ⟨b1, o1, rfl, q1, x1⟩ := atts_ptr HS.out (by have := HL.out; omega)
      have y1 := atts_slot x1 (i := j) (by have := HL.out; omega)
      have HLT := Lib.hid hlt
      obtain ⟨y, hy⟩ : ∃ y, y = slA l j := ⟨_, rfl⟩
      rw [← hy] at y1
      have HY := Lib.hid hy
      clear x1 q1 hlt hy
      by_cases hb : 1099511627776 < y
      · have t0 : decide ((1099511627776 : Int) < (y : Int)) = true := decide_eq_true (by omega)
        have t0' : decide (1099511627776 < y) = true := decide_eq_true hb
        have hF : Hid (r = false) := by show r = false; rw [HR.out, ← Bool.not_eq_true]; intro e; have := (mayA_iff.1 e).2 j (by rw [HL.out]; exact HLT.out); rw [← HY.out] at this; omega
        clear hb
        go_wp2_with fail
        go_ret
        exact ⟨by rw [hF.out]; first | done | rfl, Below.refl _ _⟩
      · have t0 : decide ((1099511627776 : Int) < (y : Int)) = false := decide_eq_false (by omega)
        have t0' : decide (1099511627776 < y) = false := decide_eq_false hb
        have HB : Hid (y ≤ 1099511627776) := by show _ ≤ _; omega
        clear hb
        go_wp2_with fail
        go_roundw
        case rel => exact ⟨j + 1, HLT.out, by go_num, (fun x hx => by
          rcases Nat.lt_succ_iff_lt_or_eq.1 hx with h | rfl
          · exact HX.out x h
          · rw [← HY.out]; exact HB.out), by first | rfl | trivial⟩
        case measure => simp [intOf]; have := HLT.out; omega
    · obtain rfl : j = n := by omega
      clear hlt
      by_cases h8 : j ≤ 6
      · have t2 : decide ((j : Int) ≤ 6) = true := decide_eq_true (by omega)
        have t2' : decide (j ≤ 6) = true := decide_eq_true h8
        have hF : Hid (r = true) := by show r = true; rw [HR.out]; exact mayA_iff.2 ⟨by rw [HL.out]; exact h8, fun i hi => HX.out i (by rw [← HL.out]; exact hi)⟩
        clear h8
        go_wp2_with fail
        go_ret
        exact ⟨by rw [hF.out]; first | done | rfl, Below.refl _ _⟩
      · have t2 : decide ((j : Int) ≤ 6) = false := decide_eq_false (by omega)
        have t2' : decide (j ≤ 6) = false := decide_eq_false h8
        have hF : Hid (r = false) := by show r = false; rw [HR.out, ← Bool.not_eq_true]; intro e; have := (mayA_iff.1 e).1; rw [HL.out] at this; omega
        clear h8
        go_wp2_with fail
        go_ret
        exact ⟨by rw [hF.out]; first | done | rfl, Below.refl _ _⟩
theorem ref13May (v : Value) (l : List Aa) (w : World) (h : SlE Eaa w v l) (hn : l.length ≤ 1000) :
    Calls Try.prog 16 #[v] w fun e w' => e = .returned (.bool (mayA l)) ∧ Below w.heap.size w w' := by
  have k := h
  obtain ⟨p, cp, rfl, _⟩ := slE_shape h
  exact ref13May_n p _ cp l w k rfl hn
theorem enters_ref13May : ∀ args w, (callFunc 16 args).run Try.prog w = .ok (.enter 16 args) w := entersE Try.func16 (by kernel_rfl) (by kernel_rfl)

set_option maxRecDepth 100000 in
set_option maxHeartbeats 1000000 in
theorem ref13Next_n (p : Option Addr) (n cp : Nat) (l : List Aa) (w : World) (h : SlE Eaa w (.slice p n cp) l) (hl : l.length = n) (hn : n ≤ 1000) :
    Calls Try.prog 14 #[.slice p n cp] w fun e w' => e = .returned (.tuple #[.int .u64 (nextN l : Int), .bool (someA l)]) ∧ Below w.heap.size w w' := by
  have HS := Lib.hid h
  have HL := Lib.hid hl
  have HN := Lib.hid hn
  by_cases h0 : n = 0
  · subst h0
    have hnil : l = [] := List.length_eq_zero_iff.1 hl
    rw [show nextN l = 0 from if_pos hnil, show someA l = false by unfold someA; rw [decide_eq_true hnil]; rfl]
    clear HS HL HN h hl hn hnil
    go_enter Try.func14, Try.ntmps14
    go_wp2_with fail
    go_ret2
    exact ⟨rfl, Below.refl _ _⟩
  · have hne : l ≠ [] := fun e => h0 (by rw [← hl, e]; rfl)
    rw [show nextN l = nextUp l (n - 1) by unfold nextN; rw [if_neg hne, hl], show someA l = true by unfold someA; rw [decide_eq_false hne]; rfl]
    have t0 : ((n : Int) == 0) = false := by rw [beq_eq_false_iff_ne]; omega
    have n0 : (0 : Int) < (n : Int) := by omega
    have H0 : Hid (0 < n) := by show 0 < n; omega
    obtain ⟨b1, o1, rfl, q1, x1⟩ := atts_ptr h (by omega)
    have X1 := Lib.hid x1
    have y0 := atts_slot x1 (i := 0) (by omega)
    rw [Nat.zero_mul, Nat.add_zero] at y0
    have HU0 : Hid (nextUp l 0 = slA l 0) := Lib.hid rfl
    have HUs : Hid (∀ q, nextUp l (q + 1) = if slA l (q + 1) < nextUp l q then slA l (q + 1) else nextUp l q) := fun q => rfl
    obtain ⟨R, hR⟩ : ∃ R, R = nextUp l (n - 1) := ⟨_, rfl⟩
    rw [← hR]
    generalize nextUp l = U at *
    have HRes := Lib.hid hR
    clear hR
    clear h hl hn h0 hne q1 x1
    go_enter Try.func14, Try.ntmps14
    go_wp2_with fail
    go_loopw [4, 5] (fun v i wr => ∃ j : Nat, 1 ≤ j ∧ j ≤ n ∧ i = .int .i64 (j : Int) ∧ v = .int .u64 (U (j - 1) : Int) ∧ wr = w) (fun _ i _ => n - (intOf i).toNat)
    case atStart => exact ⟨1, Nat.le_refl _, H0.out, rfl, by rw [show 1 - 1 = 0 from rfl, HU0.out], rfl⟩
    case round =>
      obtain ⟨j, hj1, hj, rfl, rfl, rfl⟩ := hrel
      obtain ⟨q, rfl⟩ : ∃ q, j = q + 1 := ⟨j - 1, by omega⟩
      rw [Nat.add_sub_cancel]
      by_cases hlt : q + 1 < n
      · have i0 : (0 : Int) ≤ ((q + 1 : Nat) : Int) := by omega
        have i1 : ((q + 1 : Nat) : Int) < (n : Int) := by omega
        have u1 : ((q + 1 : Nat) : Int) + 1 < 10000 := by have := HN.out; omega
        have y1 := atts_slot X1.out (i := q + 1) (by have := HL.out; omega)
        have HE := HUs.out q
        have HLT := Lib.hid hlt
        generalize slA l (q + 1) = y at *
        obtain ⟨m, hm⟩ : ∃ m, m = U q := ⟨_, rfl⟩
        rw [← hm] at HE
        rw [← hm]
        obtain ⟨z, hz⟩ : ∃ z, z = q + 1 := ⟨_, rfl⟩
        rw [← hz] at i0 i1 u1 y1 HLT
        rw [← hz]
        have HZ : Hid (U z = if y < m then y else m) := by show _ = _; rw [hz]; exact HE
        clear hlt hm hz HE hj hj1 y0
        by_cases hy : y < m
        · have d0 : decide ((y : Int) < (m : Int)) = true := decide_eq_true (by omega)
          have d0' : decide (y < m) = true := decide_eq_true hy
          rw [if_pos hy] at HZ
          clear hy
          go_wp2_with fail
          go_roundw
          case rel => exact ⟨z + 1, by omega, HLT.out, by go_num, by rw [Nat.add_sub_cancel, HZ.out], by first | rfl | trivial⟩
          case measure => simp [intOf]; have := HLT.out; omega
        · have d0 : decide ((y : Int) < (m : Int)) = false := decide_eq_false (by omega)
          have d0' : decide (y < m) = false := decide_eq_false hy
          rw [if_neg hy] at HZ
          clear hy
          go_wp2_with fail
          go_roundw
          case rel => exact ⟨z + 1, by omega, HLT.out, by go_num, by rw [Nat.add_sub_cancel, HZ.out], by first | rfl | trivial⟩
          case measure => simp [intOf]; have := HLT.out; omega
      · have hq : n - 1 = q := by omega
        have d0 : decide (((q + 1 : Nat) : Int) < (n : Int)) = false := decide_eq_false (by omega)
        obtain ⟨z, hz⟩ : ∃ z, z = q + 1 := ⟨_, rfl⟩
        rw [← hz] at d0
        rw [← hz]
        have d0' : decide (z < n) = false := decide_eq_false (by omega)
        have HQ : Hid (R = U q) := by show R = U q; rw [HRes.out, hq]
        clear hlt hz hj hj1 hq y0
        go_wp2_with fail
        go_ret2
        exact ⟨by rw [HQ.out]; first | done | rfl, Below.refl _ _⟩
theorem ref13Next (v : Value) (l : List Aa) (w : World) (h : SlE Eaa w v l) (hn : l.length ≤ 1000) :
    Calls Try.prog 14 #[v] w fun e w' => e = .returned (.tuple #[.int .u64 (nextN l : Int), .bool (someA l)]) ∧ Below w.heap.size w w' := by
  have k := h
  obtain ⟨p, cp, rfl, _⟩ := slE_shape h
  exact ref13Next_n p _ cp l w k rfl hn
theorem enters_ref13Next : ∀ args w, (callFunc 14 args).run Try.prog w = .ok (.enter 14 args) w := entersE Try.func14 (by kernel_rfl) (by kernel_rfl)
end Go.Proofs.Ytljehgohcchocaa
