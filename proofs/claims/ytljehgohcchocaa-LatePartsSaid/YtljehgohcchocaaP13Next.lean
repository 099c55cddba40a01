/-
  Package late: Next, walked.
-/
import Derived.Test.YtljehgohcchocaaLateM
import Derived.Deep.Cut
import Derived.Laws.Cover3
import Derived.Laws.Small
namespace Go.Proofs.Ytljehgohcchocaa
open Go.RowKit
set_option maxRecDepth 100000

set_option maxRecDepth 100000 in
set_option maxHeartbeats 4000000 in
theorem latNextP_n (p : Option Addr) (n cp : Nat) (l : List Aa) (w : World) (h : SlE Eaa w (.slice p n cp) l) (hl : l.length = n) (hn : n ≤ 1000) :
    Calls Try.prog 13 #[.slice p n cp] w fun e w' => e = .returned (.tuple #[.int .u64 (nextN l : Int), .bool (someA l)]) ∧ Below w.heap.size w w' := by
  have HS := Lib.hid h
  have HL := Lib.hid hl
  have HN := Lib.hid hn
  by_cases h0 : n = 0
  · subst h0
    have hnil : l = [] := List.length_eq_zero_iff.1 hl
    rw [show nextN l = 0 from if_pos hnil, show someA l = false by unfold someA; rw [decide_eq_true hnil]; rfl]
    clear HS HL HN h hl hn hnil
    go_enter Try.func13, Try.ntmps13
    go_wp2_with fail
    go_ret2
    exact ⟨rfl, Below.refl _ _⟩
  · have hne : l ≠ [] := fun e => h0 (by rw [← hl, e]; rfl)
    rw [show nextN l = nextUp l (n - 1) by unfold nextN; rw [if_neg hne, hl], show someA l = true by unfold someA; rw [decide_eq_false hne]; rfl]
    have t0 : ((n : Int) == 0) = false := by rw [beq_eq_false_iff_ne]; omega
    have n0 : (0 : Int) < (n : Int) := by omega
    have H0 : Hid (0 < n) := by show 0 < n; omega
    obtain ⟨b1, o1, rfl, q1, x1⟩ := atts_ptr h (by omega)
    have X1 := Lib.hid x1
    have y0 := atts_slot x1 (i := 0) (by omega)
    rw [Nat.zero_mul, Nat.add_zero] at y0
    have HU0 : Hid (nextUp l 0 = slA l 0) := Lib.hid rfl
    have HUs : Hid (∀ j, nextUp l j = if slA l j < nextUp l (j - 1) then slA l j else nextUp l (j - 1)) := fun j => by
      cases j with
      | zero => show nextUp l 0 = if slA l 0 < nextUp l 0 then slA l 0 else nextUp l 0; split <;> rfl
      | succ q => rfl
    obtain ⟨R, hR⟩ : ∃ R, R = nextUp l (n - 1) := ⟨_, rfl⟩
    rw [← hR]
    generalize nextUp l = U at *
    have HRes := Lib.hid hR
    clear hR
    clear h hl hn h0 hne q1 x1
    go_enter Try.func13, Try.ntmps13
    go_wp2_with fail
    clear y0
    go_loopw [4, 16] (fun v i wr => ∃ j : Nat, j ≤ n ∧ i = .int .i64 (j : Int) ∧ v = .int .u64 (U (j - 1) : Int) ∧ Below w.heap.size w wr) (fun _ i _ => n - (intOf i).toNat)
    case atStart => exact ⟨0, Nat.zero_le _, rfl, by rw [show 0 - 1 = 0 from rfl, HU0.out], Below.refl _ _⟩
    case round =>
      obtain ⟨j, hj, rfl, rfl, hb⟩ := hrel
      have HB := Lib.hid hb
      clear hb
      by_cases hlt : j < n
      · have i0 : (0 : Int) ≤ (j : Int) := by omega
        have i1 : (j : Int) < (n : Int) := by omega
        have u1 : (j : Int) + 1 < 10000 := by have := HN.out; omega
        have y1 := atts_ld (keepR HB.out X1.out) (i := j) (by have := HL.out; omega)
        have HE := HUs.out j
        have HLT := Lib.hid hlt
        obtain ⟨x, hx⟩ : ∃ x, x = att l j := ⟨_, rfl⟩
        rw [show slA l j = x.slot.toNat by rw [hx]; rfl] at HE
        rw [← hx] at y1
        obtain ⟨W, hW⟩ : ∃ W, W = wr.alloc (.cells (aa x) 29) := ⟨_, rfl⟩
        have hx1 : W.heap[wr.heap.size]? = some (.cells (aa x) 29 (0, 0)) := by rw [hW]; exact heap_alloc_last wr _
        have G1 : Hid (Below w.heap.size w W) := by rw [hW]; exact belowT HB.out below1
        have z := aa_rd0_slot hx1
        unfold num at z
        have HW := Lib.hid hW
        generalize x.slot.toNat = y at *
        obtain ⟨m, hm⟩ : ∃ m, m = U (j - 1) := ⟨_, rfl⟩
        rw [← hm] at HE
        rw [← hm]
        have HZ : Hid (U j = if y < m then y else m) := HE
        clear hlt hm HE hj hx hx1 hW
        go_upto_region 7 with fail
        rw [← HW.out]
        by_cases hy : y < m
        · have d0 : ((y : Int) < (m : Int)) = True := eq_true (by omega)
          have d1 : (y < m) = True := eq_true hy
          rw [if_pos hy] at HZ
          clear hy
          go_wp2_with fail
          go_roundw
          case rel => exact ⟨j + 1, HLT.out, by go_num, by rw [Nat.add_sub_cancel, HZ.out], G1.out⟩
          case measure => simp [intOf]; have := HLT.out; omega
        · have d0 : ((y : Int) < (m : Int)) = False := eq_false (by omega)
          have d1 : (y < m) = False := eq_false hy
          rw [if_neg hy] at HZ
          clear hy
          go_wp2_with fail
          go_roundw
          case rel => exact ⟨j + 1, HLT.out, by go_num, by rw [Nat.add_sub_cancel, HZ.out], G1.out⟩
          case measure => simp [intOf]; have := HLT.out; omega
      · obtain rfl : j = n := by omega
        rw [← HRes.out]
        clear hlt
        go_wp2_with fail
        go_ret2
        exact ⟨rfl, HB.out⟩
theorem latNextP (v : Value) (l : List Aa) (w : World) (h : SlE Eaa w v l) (hn : l.length ≤ 1000) :
    Calls Try.prog 13 #[v] w fun e w' => e = .returned (.tuple #[.int .u64 (nextN l : Int), .bool (someA l)]) ∧ Below w.heap.size w w' := by
  have k := h
  obtain ⟨p, cp, rfl, _⟩ := slE_shape h
  exact latNextP_n p _ cp l w k rfl hn
end Go.Proofs.Ytljehgohcchocaa
