/-
  Package skip: Up, walked. (written by wip/gen/skipUp.py)
-/
import Derived.Test.YtnmljjmaejmlfaaP07Near
import Derived.Laws.BitsAllLaws
namespace Go.Proofs.Ytnmljjmaejmlfaa
open Go.RowKit

theorem upT_past {l : List Nd} (h : MayT l) {i m : Nat} (hi : i < l.length) (hm : l.length ≤ m) : upT l m i = -1 := by
  rcases up_spec h m i hi with ⟨h1, _⟩ | ⟨_, e⟩
  · have := deep_le h i hi; omega
  · exact e
theorem upT_more {l : List Nd} (h : MayT l) {i m k : Nat} (hi : i < l.length) (e : upT l (m % 2 ^ k) i = -1) : upT l m i = -1 := by
  have h1 : m % 2 ^ k + (m - m % 2 ^ k) = m := by have := Nat.mod_le m (2 ^ k); omega
  rw [← h1]
  exact up_none h hi e
/-- A bit of a small number. -/
theorem bit_small : ∀ m, m < 12 → (bits .and .i64 ((m : Nat) : Int) 1 != 0) = m.testBit 0 ∧ (bits .and .i64 (m : Int) 2 != 0) = m.testBit 1 ∧ (bits .and .i64 (m : Int) 4 != 0) = m.testBit 2 ∧ (bits .and .i64 (m : Int) 8 != 0) = m.testBit 3 := by decide +kernel

set_option maxRecDepth 100000 in
set_option maxHeartbeats 4000000 in
theorem skipUp (s : SlV) (l : List Nd) (i m : Int) (w : World) (h : SlE Ene w (sv s) l) :
    Calls Try.prog 13 #[.agg (tr ⟨s⟩), .int .i64 i, .int .i64 m] w fun e w' => e = .returned (.int .i64 (upZ l i m)) ∧ Below w.heap.size w w' := by
  have HT := Lib.hid (fun W (g : Below w.heap.size w W) => skipTable s l W (slE_keep g h))
  obtain ⟨W0, hW0⟩ : ∃ W0, W0 = w.alloc (.cells (tr ⟨s⟩) 24) := ⟨_, rfl⟩
  have HB : Hid (Below w.heap.size w W0) := by rw [hW0]; exact below1
  have HW := Lib.hid hW0
  obtain ⟨res, hres⟩ : ∃ res, res = upZ l i m := ⟨_, rfl⟩
  rw [← hres]
  have HR := Lib.hid hres
  clear hW0 h hres
  go_enter Try.func13, Try.ntmps13
  go_wp2_with fail
  go_step3
  go_wp2_with fail
  rw [← HW.out]
  refine (HT.out W0 HB.out).mono ?_
  rintro e w1 ⟨v, rfl, ho, g1⟩
  have G1 := Lib.hid (belowT HB.out g1)
  obtain ⟨pv, cv, rfl⟩ := ownE_len ho rfl
  have HO := Lib.hid (ownE_slE ho)
  have HPl := Lib.hid (skipPlace pv (tabT l).length cv i w1)
  rw [place_tab] at HPl
  obtain ⟨a, ha⟩ : ∃ a, a = isT l i := ⟨_, rfl⟩
  rw [← ha] at HPl
  have HA := Lib.hid ha
  obtain ⟨n, hn⟩ : ∃ n, n = (tabT l).length := ⟨_, rfl⟩
  rw [← hn] at HPl
  rw [← hn]
  have HN := Lib.hid hn
  clear ho g1 ha hn
  go_wp2_with fail
  refine HPl.out.mono ?_
  rintro e w2 ⟨rfl, g2⟩
  have G2 := Lib.hid (belowT G1.out g2)
  have O2 := Lib.hid (slE_keep g2 HO.out)
  clear g2 HPl
  cases a
  · have hX : Hid (res = -1) := by show _ = _; rw [HR.out]; exact upZ_not (.inl HA.out.symm)
    go_wp2_with fail
    (try rw [Exit.noGoto_ret])
    go_ret
    exact ⟨by rw [hX.out]; first | done | rfl, G2.out⟩
  · by_cases h0 : m < 0
    · have t0 : decide (m < 0) = true := decide_eq_true h0
      have hX : Hid (res = -1) := by show _ = _; rw [HR.out]; exact upZ_not (.inr h0)
      clear h0
      go_wp2_with fail
      (try rw [Exit.noGoto_ret])
      go_ret
      exact ⟨by rw [hX.out]; first | done | rfl, G2.out⟩
    · obtain ⟨m, rfl⟩ : ∃ m0 : Nat, m = m0 := ⟨m.toNat, by omega⟩
      have t0 : decide ((m : Int) < 0) = false := decide_eq_false h0
      obtain ⟨hm, hi0, hi1⟩ := isT_iff.1 HA.out.symm
      obtain ⟨i, rfl⟩ : ∃ i' : Nat, i = i' := ⟨i.toNat, by omega⟩
      have HI : Hid (i < l.length) := by show i < l.length; omega
      have HM := Lib.hid hm
      have HL : Hid (l.length = n) := by show l.length = n; rw [HN.out, tab_len hm]
      have HRU : Hid (res = upT l m i) := by show _ = _; rw [HR.out, upZ_nat hm HI.out]
      by_cases hmn : n ≤ m
      · have t2 : decide ((n : Int) ≤ (m : Int)) = true := by rw [decide_eq_true_iff]; omega
        have t2' : decide (n ≤ m) = true := decide_eq_true hmn
        have hX : Hid (res = -1) := by show _ = _; rw [HRU.out]; exact upT_past hm HI.out (by have := HL.out; omega)
        clear h0 hm hi0 hi1 hmn
        go_wp2_with fail
        (try rw [Exit.noGoto_ret])
        go_ret
        exact ⟨by rw [hX.out]; first | done | rfl, G2.out⟩
      · have t2 : decide ((n : Int) ≤ (m : Int)) = false := by rw [decide_eq_false_iff_not]; omega
        have t2' : decide (n ≤ m) = false := decide_eq_false hmn
        have HM12 : Hid (m < 12) := by show m < 12; have := hm.le; have := HL.out; omega
        have HO2 := O2.out
        rw [tab_is l hm, HL.out] at HO2
        rw [tabUp_len] at HO2
        obtain ⟨b1, o1, c1, e1, _, hb1, x1⟩ := slE_ne HO2 (by rw [tabUp_len]; have := HI.out; have := HL.out; omega)
        have e1' : pv = some ⟨b1, o1, none⟩ := by injection e1
        subst e1'
        have X1 := Lib.hid x1
        clear h0 hm hi0 hi1 hmn HO2 e1 hb1 x1
        go_wp2_with fail
        go_step3
        go_wp2_with fail
        go_loopw [8, 27] (fun c k wr => ∃ (j : Nat) (x : Int), j ≤ 4 ∧ k = .int .i64 (j : Int) ∧ c = .int .i64 x ∧ upT l (m % 2 ^ j) i = x ∧ Below w2.heap.size w2 wr) (fun _ k _ => 4 - (intOf k).toNat)
        case atStart => exact ⟨0, (i : Int), by omega, rfl, rfl, by rw [Nat.pow_zero, Nat.mod_one]; rfl, Below.refl _ _⟩
        case round =>
          obtain ⟨j, c, hj, rfl, rfl, hu, hb⟩ := hrel
          have HU := Lib.hid hu
          have HBB := Lib.hid hb
          have hj' : j = 0 ∨ j = 1 ∨ j = 2 ∨ j = 3 ∨ j = 4 := by omega
          clear hj hu hb t0 t2 t2'
          rcases hj' with rfl | rfl | rfl | rfl | rfl
          · rcases up_bits HM.out HI.out m 0 with ⟨e0, _⟩ | ⟨x, e0, hx, hb⟩
            · have hc : c = -1 := HU.out.symm.trans e0
              have hX : Hid (res = c) := by show _ = _; rw [HRU.out, hc]; exact upT_more HM.out HI.out e0
              have t1 : (c == -1) = true := by simpa using hc
              clear hc e0
              go_wp2_with fail
              (try rw [Exit.noGoto_ret])
              go_ret
              exact ⟨by rw [hX.out]; first | done | rfl, belowT G2.out HBB.out⟩
            · obtain rfl : c = (x : Int) := HU.out.symm.trans e0
              have t1 : ((x : Int) == -1) = false := by simp
              have hbt := (bit_small m HM12.out).1
              rcases hb with ⟨hb, en⟩ | ⟨hb, en⟩
              · have t3 : (bits .and .i64 (m : Int) 1 != 0) = false := hbt.trans hb
                have HE := Lib.hid en
                clear hbt hb en e0 hx
                go_wp2_with fail
                go_roundw
                case rel => exact ⟨1, (x : Int), by omega, by go_num, rfl, HE.out, HBB.out⟩
                case measure => simp [intOf]
              · have t3 : (bits .and .i64 (m : Int) 1 != 0) = true := hbt.trans hb
                have HE := Lib.hid en
                have y1 := qd_cell (keepR HBB.out X1.out) (tabUp_at l (show x < n by have := HL.out; omega)) (j := 0) (by omega)
                rw [qat_leap l x (by omega)] at y1
                rw [Nat.add_zero] at y1
                have i0 : (0 : Int) ≤ (x : Int) := by omega
                have i1 : (x : Int) < (n : Int) := by have := HL.out; omega
                clear hbt hb en e0 hx
                go_wp2_with fail
                go_roundw
                case rel => exact ⟨1, leapT l x 0, by omega, by go_num, rfl, HE.out, HBB.out⟩
                case measure => simp [intOf]
          · rcases up_bits HM.out HI.out m 1 with ⟨e0, _⟩ | ⟨x, e0, hx, hb⟩
            · have hc : c = -1 := HU.out.symm.trans e0
              have hX : Hid (res = c) := by show _ = _; rw [HRU.out, hc]; exact upT_more HM.out HI.out e0
              have t1 : (c == -1) = true := by simpa using hc
              clear hc e0
              go_wp2_with fail
              (try rw [Exit.noGoto_ret])
              go_ret
              exact ⟨by rw [hX.out]; first | done | rfl, belowT G2.out HBB.out⟩
            · obtain rfl : c = (x : Int) := HU.out.symm.trans e0
              have t1 : ((x : Int) == -1) = false := by simp
              have hbt := (bit_small m HM12.out).2.1
              rcases hb with ⟨hb, en⟩ | ⟨hb, en⟩
              · have t3 : (bits .and .i64 (m : Int) 2 != 0) = false := hbt.trans hb
                have HE := Lib.hid en
                clear hbt hb en e0 hx
                go_wp2_with fail
                go_roundw
                case rel => exact ⟨2, (x : Int), by omega, by go_num, rfl, HE.out, HBB.out⟩
                case measure => simp [intOf]
              · have t3 : (bits .and .i64 (m : Int) 2 != 0) = true := hbt.trans hb
                have HE := Lib.hid en
                have y1 := qd_cell (keepR HBB.out X1.out) (tabUp_at l (show x < n by have := HL.out; omega)) (j := 1) (by omega)
                rw [qat_leap l x (by omega)] at y1
                have i0 : (0 : Int) ≤ (x : Int) := by omega
                have i1 : (x : Int) < (n : Int) := by have := HL.out; omega
                clear hbt hb en e0 hx
                go_wp2_with fail
                go_roundw
                case rel => exact ⟨2, leapT l x 1, by omega, by go_num, rfl, HE.out, HBB.out⟩
                case measure => simp [intOf]
          · rcases up_bits HM.out HI.out m 2 with ⟨e0, _⟩ | ⟨x, e0, hx, hb⟩
            · have hc : c = -1 := HU.out.symm.trans e0
              have hX : Hid (res = c) := by show _ = _; rw [HRU.out, hc]; exact upT_more HM.out HI.out e0
              have t1 : (c == -1) = true := by simpa using hc
              clear hc e0
              go_wp2_with fail
              (try rw [Exit.noGoto_ret])
              go_ret
              exact ⟨by rw [hX.out]; first | done | rfl, belowT G2.out HBB.out⟩
            · obtain rfl : c = (x : Int) := HU.out.symm.trans e0
              have t1 : ((x : Int) == -1) = false := by simp
              have hbt := (bit_small m HM12.out).2.2.1
              rcases hb with ⟨hb, en⟩ | ⟨hb, en⟩
              · have t3 : (bits .and .i64 (m : Int) 4 != 0) = false := hbt.trans hb
                have HE := Lib.hid en
                clear hbt hb en e0 hx
                go_wp2_with fail
                go_roundw
                case rel => exact ⟨3, (x : Int), by omega, by go_num, rfl, HE.out, HBB.out⟩
                case measure => simp [intOf]
              · have t3 : (bits .and .i64 (m : Int) 4 != 0) = true := hbt.trans hb
                have HE := Lib.hid en
                have y1 := qd_cell (keepR HBB.out X1.out) (tabUp_at l (show x < n by have := HL.out; omega)) (j := 2) (by omega)
                rw [qat_leap l x (by omega)] at y1
                have i0 : (0 : Int) ≤ (x : Int) := by omega
                have i1 : (x : Int) < (n : Int) := by have := HL.out; omega
                clear hbt hb en e0 hx
                go_wp2_with fail
                go_roundw
                case rel => exact ⟨3, leapT l x 2, by omega, by go_num, rfl, HE.out, HBB.out⟩
                case measure => simp [intOf]
          · rcases up_bits HM.out HI.out m 3 with ⟨e0, _⟩ | ⟨x, e0, hx, hb⟩
            · have hc : c = -1 := HU.out.symm.trans e0
              have hX : Hid (res = c) := by show _ = _; rw [HRU.out, hc]; exact upT_more HM.out HI.out e0
              have t1 : (c == -1) = true := by simpa using hc
              clear hc e0
              go_wp2_with fail
              (try rw [Exit.noGoto_ret])
              go_ret
              exact ⟨by rw [hX.out]; first | done | rfl, belowT G2.out HBB.out⟩
            · obtain rfl : c = (x : Int) := HU.out.symm.trans e0
              have t1 : ((x : Int) == -1) = false := by simp
              have hbt := (bit_small m HM12.out).2.2.2
              rcases hb with ⟨hb, en⟩ | ⟨hb, en⟩
              · have t3 : (bits .and .i64 (m : Int) 8 != 0) = false := hbt.trans hb
                have HE := Lib.hid en
                clear hbt hb en e0 hx
                go_wp2_with fail
                go_roundw
                case rel => exact ⟨4, (x : Int), by omega, by go_num, rfl, HE.out, HBB.out⟩
                case measure => simp [intOf]
              · have t3 : (bits .and .i64 (m : Int) 8 != 0) = true := hbt.trans hb
                have HE := Lib.hid en
                have y1 := qd_cell (keepR HBB.out X1.out) (tabUp_at l (show x < n by have := HL.out; omega)) (j := 3) (by omega)
                rw [qat_leap l x (by omega)] at y1
                have i0 : (0 : Int) ≤ (x : Int) := by omega
                have i1 : (x : Int) < (n : Int) := by have := HL.out; omega
                clear hbt hb en e0 hx
                go_wp2_with fail
                go_roundw
                case rel => exact ⟨4, leapT l x 3, by omega, by go_num, rfl, HE.out, HBB.out⟩
                case measure => simp [intOf]
          · have hX : Hid (res = c) := by
              show _ = _
              rw [HRU.out, ← HU.out, Nat.mod_eq_of_lt (show m < 2 ^ 4 by have := HM12.out; omega)]
            go_wp2_with fail
            (try rw [Exit.noGoto_ret])
            go_ret
            exact ⟨by rw [hX.out]; first | done | rfl, belowT G2.out HBB.out⟩
theorem enters_skipUp : ∀ args w, (callFunc 13 args).run Try.prog w = .ok (.enter 13 args) w := entersE Try.func13 (by kernel_rfl) (by kernel_rfl)
end Go.Proofs.Ytnmljjmaejmlfaa
