/-
  The law RingFills, walked.
-/
import Derived.Test.YtmcnpefnebehfaaRingV
namespace Go.Proofs.Ytmcnpefnebehfaa
open Go.RowKit

set_option maxRecDepth 100000 in
set_option maxHeartbeats 1000000 in
theorem ringFills_off (c : Int) (p : Option Addr) (n cap : Nat) (w : World) (h : roomB c = false ∨ 60 < n) :
    Calls Try.prog 7 #[.int .i64 c, .slice p n cap] w fun e w' => e = .returned (.bool true) ∧ Below w.heap.size w w' := by
  by_cases hn : 60 < n
  · have z1 : decide ((60 : Int) < (n : Int)) = true := by simp; omega
    clear h hn
    cases hr : roomB c with
    | true =>
      have HC := Lib.hid (fun W => new_is c W true hr c rfl)
      clear hr
      go_enter Try.func7, Try.ntmps7
      go_wp2_with fail
      refine (awake_any _).mono ?_
      rintro e w1 ⟨rfl, g1⟩
      go_wp2_with fail
      refine (HC.out _).mono ?_
      rintro e w2 ⟨rfl, g2⟩
      go_wp2_with fail
      go_ret
      exact ⟨rfl, belowT g1 (belowT g2 below1)⟩
    | false =>
      have HC := Lib.hid (fun W => new_is c W false hr 0 rfl)
      have HR : Hid (c < 0 ∨ 8 < c) := by
        show _ ∨ _
        unfold roomB at hr; rw [decide_eq_false_iff_not] at hr; omega
      clear hr
      rcases HR.out with hr | hr
      · go_enter Try.func7, Try.ntmps7
        go_wp2_with fail
        refine (awake_any _).mono ?_
        rintro e w1 ⟨rfl, g1⟩
        go_wp2_with fail
        refine (HC.out _).mono ?_
        rintro e w2 ⟨rfl, g2⟩
        go_wp2_with fail
        go_ret
        exact ⟨rfl, belowT g1 (belowT g2 below1)⟩
      · have hr' : decide (c < 0) = false := by rw [decide_eq_false_iff_not]; omega
        go_enter Try.func7, Try.ntmps7
        go_wp2_with fail
        refine (awake_any _).mono ?_
        rintro e w1 ⟨rfl, g1⟩
        go_wp2_with fail
        refine (HC.out _).mono ?_
        rintro e w2 ⟨rfl, g2⟩
        go_wp2_with fail
        go_ret
        exact ⟨rfl, belowT g1 (belowT g2 below1)⟩
  · have z1 : decide ((60 : Int) < (n : Int)) = false := by simp; omega
    have hr : roomB c = false := h.resolve_right hn
    have HC := Lib.hid (fun W => new_is c W false hr 0 rfl)
    have HR : Hid (c < 0 ∨ 8 < c) := by
      show _ ∨ _
      unfold roomB at hr; rw [decide_eq_false_iff_not] at hr; omega
    clear hr h hn
    rcases HR.out with hr | hr
    · go_enter Try.func7, Try.ntmps7
      go_wp2_with fail
      refine (awake_any _).mono ?_
      rintro e w1 ⟨rfl, g1⟩
      go_wp2_with fail
      refine (HC.out _).mono ?_
      rintro e w2 ⟨rfl, g2⟩
      go_wp2_with fail
      go_ret
      exact ⟨rfl, belowT g1 (belowT g2 below1)⟩
    · have hr' : decide (c < 0) = false := by rw [decide_eq_false_iff_not]; omega
      go_enter Try.func7, Try.ntmps7
      go_wp2_with fail
      refine (awake_any _).mono ?_
      rintro e w1 ⟨rfl, g1⟩
      go_wp2_with fail
      refine (HC.out _).mono ?_
      rintro e w2 ⟨rfl, g2⟩
      go_wp2_with fail
      go_ret
      exact ⟨rfl, belowT g1 (belowT g2 below1)⟩

set_option maxRecDepth 100000 in
set_option maxHeartbeats 2000000 in
theorem ringFills_on (c : Nat) (p : Option Addr) (n cap : Nat) (l : List Int) (w : World) (h : SlI w (.slice p n cap) l) (hl : l.length = n) (hc : c ≤ 8) (hn : n ≤ 60) :
    Calls Try.prog 7 #[.int .i64 (c : Int), .slice p n cap] w fun e w' => e = .returned (.bool true) ∧ Below w.heap.size w w' := by
  have z1 : decide ((60 : Int) < (n : Int)) = false := by simp; omega
  have hr : roomB (c : Int) = true := by unfold roomB; rw [decide_eq_true_iff]; omega
  have HC := Lib.hid (fun W => new_is (c : Int) W true hr (c : Int) rfl)
  have HS := Lib.hid h
  have HL := Lib.hid hl
  have HN := Lib.hid hn
  have HC8 := Lib.hid hc
  have HF := Lib.hid (fills c hc l)
  clear hr h hl hn hc
  go_enter Try.func7, Try.ntmps7
  go_wp2_with fail
  refine (awake_any _).mono ?_
  rintro e w1 ⟨rfl, g1⟩
  have B1 := Lib.hid g1
  clear g1
  go_wp2_with fail
  refine (HC.out _).mono ?_
  rintro e w2 ⟨rfl, g2⟩
  obtain ⟨w3, hw3⟩ : ∃ w3, w3 = w2.alloc (rgO (c : Int) (.slice none 0 0)) := ⟨_, rfl⟩
  have B3 : Hid (Below w.heap.size w w3) := by rw [hw3]; exact belowT B1.out (belowT g2 below1)
  have R3 : Hid (Rg w3 w2.heap.size (c : Int) (.slice none 0 0) []) := by rw [hw3]; exact Rg.new (slI_nil _ _ _)
  have S3 := Lib.hid (slI_keep B3.out HS.out)
  have HW := Lib.hid hw3
  clear g2 hw3
  go_wp2_with fail
  rw [← HW.out]
  clear z1
  go_loopw [8, 9] (fun u i wr => ∃ j : Nat, j ≤ n ∧ i = .int .i64 j ∧ (∀ x, x < j → 0 ≤ it l x) ∧ OwnI wr w3.heap.size u (l.take j) ∧ Below w3.heap.size w3 wr) (fun _ i _ => n - (intOf i).toNat)
  case atStart => exact ⟨0, Nat.zero_le _, rfl, fun x hx => absurd hx (Nat.not_lt_zero _), by simpa using ownI_nil _ _, Below.refl _ _⟩
  case round =>
    obtain ⟨j, hj, rfl, hx, ho, hb⟩ := hrel
    have HX := Lib.hid hx
    have HO := Lib.hid ho
    have HB := Lib.hid hb
    clear hx ho hb
    by_cases hlt : j < n
    · have i0 : (0 : Int) ≤ (j : Int) := by omega
      have i1 : (j : Int) < (n : Int) := by omega
      have u1 : (j : Int) + 1 < 10000 := by have := HN.out; omega
      obtain ⟨b, off, cap', e1, _, q1, x1⟩ := slI_ne S3.out (by have := HL.out; omega)
      injection e1 with e2 e4 e3
      subst e2 e3
      clear e4
      have y1 : wr.cell? ⟨b, off + j, none⟩ = some (.int .i64 (it l j)) := (HB.out.cell (p := ⟨b, off + j, none⟩) q1).trans (x1 j (by have := HL.out; omega))
      clear x1 q1
      by_cases hneg : it l j < 0
      · go_wp2_with fail
        go_ret
        exact ⟨rfl, belowT B3.out HB.out⟩
      · have hpos : decide (it l j < 0) = false := by rw [decide_eq_false_iff_not]; exact hneg
        have HP := Lib.hid hneg
        have HT := Lib.hid (take_snocI l j (by have := HL.out; omega))
        have hlen : (l.take j).length + 1 ≤ 1000000 := by rw [List.length_take]; have := HN.out; omega
        have HLen := Lib.hid hlen
        clear hneg hlen
        generalize hyy : it l j = y at *
        go_wp2_with (at_builtin; refine wpList_append_ints _ rfl (.tmp 59) (.tmp 64) rfl w3.heap.size _ _ rfl (ownI_alloc HO.out _) _ [y] rfl (slI_lit _ [y] _ _ _ rfl rfl) HLen.out (by have := HB.out.size; simp; omega) ?_; intro v4 w4 ho4 hg4)
        have HO4 := Lib.hid ho4
        have HB4 := Lib.hid (HB.out.trans ((GrI.alloc hg4).own HO.out HB.out.size))
        clear ho4 hg4
        go_roundw
        case rel => exact ⟨j + 1, by omega, by go_num, fun x hx => by
          rcases Nat.lt_succ_iff_lt_or_eq.1 hx with h | rfl
          · exact HX.out x h
          · rw [hyy]; have := HP.out; omega, by rw [HT.out]; exact HO4.out, HB4.out⟩
        case measure => simp [intOf]; omega
    · obtain rfl : j = n := by omega
      have hfull : l.take j = l := by rw [← HL.out]; exact List.take_length
      have O1 : OwnI wr w3.heap.size u8 l := by have := HO.out; rwa [hfull] at this
      have hnn : ∀ x ∈ l, 0 ≤ x := fun x hx => by
        obtain ⟨i, hi, rfl⟩ := List.getElem_of_mem hx
        have := HX.out i (by have := HL.out; omega)
        rwa [it_in l hi] at this
      obtain ⟨f1, f2, f3⟩ := HF.out hnn
      rw [HL.out] at f1 f2 f3
      have HF1 := Lib.hid f1
      have HF2 := Lib.hid f2
      have HF3 := Lib.hid f3
      have HO1 := Lib.hid O1
      have HBo := Lib.hid HB.out
      clear hfull O1 hnn f1 f2 f3 HO HX HB HF
      obtain ⟨wo, rfl⟩ : ∃ wo : World, wo = wr := ⟨_, rfl⟩
      obtain ⟨vo, rfl⟩ : ∃ vo : Value, vo = u8 := ⟨_, rfl⟩
      go_wp2_with fail
      go_loopw [8, 10] (fun u i wr => ∃ k : Nat, k ≤ j ∧ i = .int .i64 k ∧ OwnI wr w3.heap.size u (l ++ List.replicate k (-1)) ∧ Below w3.heap.size w3 wr) (fun _ i _ => j - (intOf i).toNat)
      case atStart => exact ⟨0, Nat.zero_le _, rfl, by simpa using HO1.out, HBo.out⟩
      case round =>
        obtain ⟨k, hk, rfl, ho, hb⟩ := hrel
        have HO := Lib.hid ho
        have HB := Lib.hid hb
        clear ho hb
        by_cases hlt : k < j
        · have u1 : (k : Int) + 1 < 10000 := by have := HN.out; omega
          have HT : Hid (List.replicate (k + 1) (-1 : Int) = List.replicate k (-1) ++ [-1]) := List.replicate_succ'
          have HLen := Lib.hid (show (l ++ List.replicate k (-1)).length + 1 ≤ 1000000 by rw [List.length_append, List.length_replicate]; have := HN.out; have := HL.out; omega)
          go_wp2_with (at_builtin; refine wpList_append_ints _ rfl (.tmp 72) (.tmp 73) rfl w3.heap.size _ _ rfl (ownI_alloc HO.out _) _ [-1] rfl (slI_lit _ [-1] _ _ _ rfl rfl) HLen.out (by have := HB.out.size; simp; omega) ?_; intro v4 w4 ho4 hg4)
          have HO4 := Lib.hid ho4
          have HB4 := Lib.hid (HB.out.trans ((GrI.alloc hg4).own HO.out HB.out.size))
          clear ho4 hg4
          go_roundw
          case rel => exact ⟨k + 1, by omega, by go_num, by rw [HT.out, ← List.append_assoc]; exact HO4.out, HB4.out⟩
          case measure => simp [intOf]; omega
        · obtain rfl : k = j := by omega
          have SQ := Lib.hid (ownI_slI HO.out)
          have R4 := Lib.hid (R3.out.keep HB.out)
          have B4 := Lib.hid (belowT B3.out HB.out)
          have S4 := Lib.hid (slI_keep HB.out S3.out)
          have HAL := Lib.hid (show (l ++ List.replicate k (-1)).length ≤ 1000 by rw [List.length_append, List.length_replicate]; have := HN.out; have := HL.out; omega)
          obtain ⟨m, hm⟩ : ∃ m, m = 2 * k := ⟨_, rfl⟩
          have HM : Hid (m = 2 * k) := hm
          rw [← hm] at HF2
          have t1 : (m : Int) = 2 * (k : Int) := by omega
          have u2 : 2 * (k : Int) < 1000 := by have := HN.out; omega
          have HRun := Lib.hid (fun W h q (hq : SlI W q (l ++ List.replicate k (-1))) => run_is (c : Int) (.slice none 0 0) [] q (l ++ List.replicate k (-1)) [] (goT (c : Int) [] (l ++ List.replicate k (-1))) W h hq (by simp) HAL.out HF1.out rfl)
          clear HO HB hm HF1 HAL HO1 HBo
          generalize goT (c : Int) [] (l ++ List.replicate k (-1)) = T at *
          generalize l ++ List.replicate k (-1) = A at *
          obtain ⟨wo2, rfl⟩ : ∃ wo2 : World, wo2 = wr := ⟨_, rfl⟩
          obtain ⟨x0, x1, _, _, xl⟩ := cells2 R4.out.m
          go_wp2_with fail
          refine (HRun.out _ R4.out.s _ SQ.out).mono ?_
          rintro e w5 ⟨v5, q5, rfl, s5, y5, g5⟩
          have R5 := Lib.hid (Rg.new (c := (c : Int)) s5)
          have E5 := Lib.hid (belowT g5 (below1 (o := rgO (c : Int) v5)))
          have Y5 := Lib.hid (slI_keep (below1 (o := rgO (c : Int) v5)) y5)
          obtain ⟨p5, cap5, rfl⟩ := slI_len (n := 0) s5 rfl
          obtain ⟨pt, capt, rfl⟩ := slI_len (n := m) y5 HF2.out
          have S5 := Lib.hid (slI_keep E5.out S4.out)
          have B5 := Lib.hid (belowT B4.out E5.out)
          clear s5 y5 g5 x0 x1 xl
          go_wp2_with fail
          obtain ⟨w6, hw6⟩ : ∃ w6, w6 = w5.alloc (rgO (c : Int) (.slice p5 0 cap5)) := ⟨_, rfl⟩
          rw [← hw6] at R5 E5 Y5 S5 B5
          have HW6 := Lib.hid hw6
          clear hw6
          rw [← HW6.out]
          go_loopw [13] (fun i wr => ∃ q : Nat, q ≤ k ∧ i = .int .i64 q ∧ Below w6.heap.size w6 wr) (fun i _ => k - (intOf i).toNat)
          case atStart => exact ⟨0, Nat.zero_le _, rfl, Below.refl _ _⟩
          case round =>
            obtain ⟨q, hq, rfl, hb⟩ := hrel
            have HB := Lib.hid hb
            clear hb
            by_cases hlt2 : q < k
            · have i0 : (0 : Int) ≤ (q : Int) := by omega
              have i1 : (q : Int) < (k : Int) := by omega
              have i2 : (q : Int) < 2 * (k : Int) := by omega
              have i3 : (k : Int) + (q : Int) < 2 * (k : Int) := by omega
              have i4 : (0 : Int) ≤ (k : Int) + (q : Int) := by omega
              have u3 : (q : Int) + 1 < 10000 := by have := HN.out; omega
              have u4 : (k : Int) + (q : Int) < 10000 := by have := HN.out; omega
              obtain ⟨b, off, cap', e1, _, q1, y1⟩ := slI_ne S5.out (by have := HL.out; omega)
              injection e1 with e2 e4 e3
              subst e2 e3
              clear e4
              obtain ⟨b', off', cap'', e1, _, q2, y2⟩ := slI_ne Y5.out (by have := HF2.out; have := HM.out; omega)
              injection e1 with e2 e4 e3
              subst e2 e3
              clear e4
              have d1 : wr.cell? ⟨b, off + q, none⟩ = some (.int .i64 (it l q)) := (HB.out.cell (p := ⟨b, off + q, none⟩) q1).trans (y1 q (by have := HL.out; omega))
              obtain ⟨f1, f2⟩ := HF3.out q hlt2
              have d2 : wr.cell? ⟨b', off' + q, none⟩ = some (.int .i64 (if q < c then 1 else 0)) := by rw [← f1]; exact (HB.out.cell (p := ⟨b', off' + q, none⟩) q2).trans (y2 q (by have := HF2.out; have := HM.out; omega))
              have d3 : wr.cell? ⟨b', off' + (k + q), none⟩ = some (.int .i64 (if q < c then it l q else -1)) := by rw [← f2]; exact (HB.out.cell (p := ⟨b', off' + (k + q), none⟩) q2).trans (y2 (k + q) (by have := HF2.out; have := HM.out; omega))
              clear f1 f2 y1 y2 q1 q2
              by_cases hqc : q < c
              · rw [if_pos hqc] at d2 d3
                have g1 : decide (q < c) = true := by rw [decide_eq_true_iff]; exact hqc
                have g1' : (q : Int) < (c : Int) := by omega
                have g2 : decide (c ≤ q) = false := by rw [decide_eq_false_iff_not]; omega
                clear hqc
                go_wp2_with fail
                go_quiet (fail)
                go_wp2_with fail
                go_roundw
                case rel => exact ⟨q + 1, by omega, by go_num, belowD HB.out _⟩
                case measure => simp [intOf]; omega
              · rw [if_neg hqc] at d2 d3
                have g1 : decide (q < c) = false := by rw [decide_eq_false_iff_not]; exact hqc
                have g1' : (c : Int) ≤ (q : Int) := by omega
                have g2 : decide (c ≤ q) = true := by rw [decide_eq_true_iff]; omega
                clear hqc
                go_wp2_with fail
                go_quiet (fail)
                go_wp2_with fail
                go_roundw
                case rel => exact ⟨q + 1, by omega, by go_num, belowD HB.out _⟩
                case measure => simp [intOf]; omega
            · obtain rfl : q = k := by omega
              go_wp2_with fail
              go_ret
              exact ⟨rfl, belowT B5.out HB.out⟩
theorem ringFills_walk (c : Int) (v : Value) (l : List Int) (w : World) (h : SlI w v l) :
    Calls Try.prog 7 #[.int .i64 c, v] w fun e w' => e = .returned (.bool true) ∧ Below w.heap.size w w' := by
  have hs := h
  obtain ⟨p, cap, rfl, _⟩ := slI_shape h
  by_cases ho : roomB c = false ∨ 60 < l.length
  · exact ringFills_off c p _ cap w ho
  · have hr : roomB c = true := by cases hh : roomB c <;> simp_all
    unfold roomB at hr
    rw [decide_eq_true_iff] at hr
    obtain ⟨n, rfl⟩ := Int.eq_ofNat_of_zero_le hr.1
    exact ringFills_on n p _ cap l w hs rfl (by omega) (by omega)
end Go.Proofs.Ytmcnpefnebehfaa
