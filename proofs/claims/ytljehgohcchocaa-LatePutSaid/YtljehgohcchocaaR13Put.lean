/-
  What waits, by the document: Put, walked.
-/
import Derived.Test.YtljehgohcchocaaR13May
import Derived.Test.YtljehgohcchocaaLexG
namespace Go.Proofs.Ytljehgohcchocaa
open Go.RowKit
set_option maxRecDepth 100000

set_option maxRecDepth 100000 in
set_option maxHeartbeats 8000000 in
theorem ref13Put_n (p : Option Addr) (n cp : Nat) (l : List Aa) (x : Aa) (w : World) (h : SlE Eaa w (.slice p n cp) l) (hl : l.length = n) (hn : n ≤ 1000) :
    Calls Try.prog 10 #[.slice p n cp, .agg (aa x)] w (AttsEr (putA l x) (putE l x) w) := by
  have HM := Lib.hid (fun W (g : Below w.heap.size w W) => ref13May (.slice p n cp) l W (slE_keep g h) (by omega))
  have HS := Lib.hid h
  have HL := Lib.hid hl
  obtain ⟨W0, hW0⟩ : ∃ W0, W0 = w.alloc (.cells (aa x) 29) := ⟨_, rfl⟩
  have HB : Hid (Below w.heap.size w W0) := by rw [hW0]; exact below1
  have M0 : Hid (W0.heap[w.heap.size]? = some (.cells (aa x) 29 (0, 0))) := by rw [hW0]; exact heap_alloc_last w _
  have HW := Lib.hid hW0
  obtain ⟨b, hb⟩ : ∃ b, b = mayA l := ⟨_, rfl⟩
  rw [← hb] at HM
  have HBb := Lib.hid hb
  obtain ⟨y, hy⟩ : ∃ y, y = x.slot.toNat := ⟨_, rfl⟩
  have HY := Lib.hid hy
  clear hW0 h hl hb hy
  go_enter Try.func10, Try.ntmps10
  go_wp2_with fail
  rw [← HW.out]
  refine (HM.out W0 HB.out).mono ?_
  rintro e w1 ⟨rfl, g1⟩
  have G1 := Lib.hid (belowT HB.out g1)
  have M1 := Lib.hid (blk_keep g1 M0.out)
  have S1 := Lib.hid (slE_keep G1.out HS.out)
  clear g1
  have z1 := aa_rd0_slot M1.out
  unfold num at z1
  rw [← HY.out] at z1
  cases b
  · have hno : putOkA l x = false := by unfold putOkA; rw [← HBb.out]; rfl
    have HF : Hid (putA l x = l ∧ putE l x = 1) := ⟨by unfold putA; rw [if_neg (by rw [hno]; exact Bool.false_ne_true)], by unfold putE; rw [if_neg (by rw [hno]; exact Bool.false_ne_true)]⟩
    clear hno
    go_wp2_with fail
    go_ret2
    exact ⟨_, by rw [HF.out.2]; first | done | rfl, by rw [HF.out.1]; exact S1.out, G1.out⟩
  · by_cases hys : 1099511627776 < y
    · have t0 : decide ((1099511627776 : Int) < (y : Int)) = true := decide_eq_true (by omega)
      have t0' : decide (1099511627776 < y) = true := decide_eq_true hys
      have hno : putOkA l x = false := by unfold putOkA; rw [decide_eq_false (by rw [← HY.out]; omega)]; simp
      have HF : Hid (putA l x = l ∧ putE l x = 1) := ⟨by unfold putA; rw [if_neg (by rw [hno]; exact Bool.false_ne_true)], by unfold putE; rw [if_neg (by rw [hno]; exact Bool.false_ne_true)]⟩
      clear hno hys
      go_wp2_with fail
      go_ret2
      exact ⟨_, by rw [HF.out.2]; first | done | rfl, by rw [HF.out.1]; exact S1.out, G1.out⟩
    · have t0 : decide ((1099511627776 : Int) < (y : Int)) = false := decide_eq_false (by omega)
      have t0' : decide (1099511627776 < y) = false := decide_eq_false hys
      have hyes : putOkA l x = true := by unfold putOkA; rw [← HBb.out, decide_eq_true (by rw [← HY.out]; omega)]; rfl
      by_cases h6 : n = 6
      · have HF : Hid (putA l x = l ∧ putE l x = 3) := ⟨by unfold putA; rw [if_pos hyes, if_pos (by rw [HL.out]; exact h6)], by unfold putE; rw [if_pos hyes, if_pos (by rw [HL.out]; exact h6)]⟩
        subst h6
        clear hyes hys
        go_wp2_with fail
        go_ret2
        exact ⟨_, by rw [HF.out.2]; first | done | rfl, by rw [HF.out.1]; exact S1.out, G1.out⟩
      · have t1 : ((n : Int) == 6) = false := by rw [beq_eq_false_iff_ne]; omega
        have HF : Hid (putA l x = l ++ [x] ∧ putE l x = 0) := ⟨by unfold putA; rw [if_pos hyes, if_neg (by rw [HL.out]; exact h6)], by unfold putE; rw [if_pos hyes, if_neg (by rw [HL.out]; exact h6)]⟩
        have HN : Hid (n ≤ 1000) := hn
        clear hyes hys h6 hn
        go_wp2_with fail
        clear z1
        have hwB : w.heap.size ≤ w1.heap.size := G1.out.size
        have Q0 := wd_ld (ldA_block M1.out (aa_size x))
        refine wp_region_G w.heap.size [2] [1, 3, 4] (by kernel_rfl) ?_
        refine GX.take2 0 rfl rfl rfl (by kernel_rfl) (by kernel_rfl) (by kernel_rfl) rfl hwB ?_
        (first | go_big_quiet_step (fail) | quiet_step (fail)); refine wpQuiet_nil ?_
        refine GX.take1 2 rfl rfl rfl (by kernel_rfl) (by kernel_rfl) (by kernel_rfl) rfl hwB ?_
        (first | go_big_quiet_step (fail) | quiet_step (fail)); refine wpQuiet_nil ?_
        refine GX.branch2 1 3 (by kernel_rfl) ?_ ?_
        · refine xOp_append KaaB rfl rfl rfl (.const (.slice none 0 0)) (.tmp 21) rfl w1.heap.size _ [] rfl (ownE_nil _ _ _) _ l rfl S1.out (by have := HL.out; have := HN.out; simp [maxLen]; omega) (by have := HL.out; have := HN.out; simp; omega) (Nat.le_refl _) (fun w' hb => relE_lq hb) ?_
          intro v5 w5 o5 g5
          simp only [Act.put, List.setIfInBounds_toArray, List.set_cons_zero, List.set_cons_succ]
          obtain ⟨p5, c5, rfl⟩ := ownE_len o5 HL.out
          have D5 : Below w1.heap.size w1 w5 := (belowD (Below.refl _ _) 1).trans g5.nil
          refine GX.branch1 3 (by kernel_rfl) ?_
          refine xOp_eff rfl rfl rfl (.slice (some ⟨w5.heap.size, 0, none⟩) 1 1) (w5.alloc (.cells (aa x) 29)) (by go_simp) (relE_lq below1) ?_
          simp only [Act.put, List.setIfInBounds_toArray, List.set_cons_zero, List.set_cons_succ]
          have E6 := Lib.hid (ownE_alloc (o := .cells (aa x) 29) o5)
          have F6 := Lib.hid (aa_lit1 w5 x _ rfl)
          have D6 : Hid (Below w1.heap.size w1 (w5.alloc (.cells (aa x) 29))) := belowT D5 below1
          clear o5 g5 D5
          refine GX.branch1 4 (by kernel_rfl) ?_
          refine xOp_append KaaB rfl rfl rfl (.tmp 22) (.tmp 24) rfl w1.heap.size _ l rfl E6.out _ [x] rfl F6.out (by have := HL.out; have := HN.out; simp [maxLen]; omega) (by have := HL.out; have := HN.out; simp; omega) D6.out.size (fun w' hb => relE_tail (by kernel_rfl) (hb.mono hwB)) ?_
          intro v7 w7 o7 g7
          simp only [Act.put, List.setIfInBounds_toArray, List.set_cons_zero, List.set_cons_succ]
          have B7 := Lib.hid (belowT G1.out (D6.out.trans (g7.own E6.out D6.out.size)))
          have O7 := Lib.hid o7
          clear o7 g7
          refine GX.take2 5 rfl rfl rfl (by kernel_rfl) (by kernel_rfl) (by kernel_rfl) rfl hwB ?_
          (first | go_big_quiet_step (fail) | quiet_step (fail)); refine wpQuiet_nil ?_
          refine GX.take2 6 rfl rfl rfl (by kernel_rfl) (by kernel_rfl) (by kernel_rfl) rfl hwB ?_
          (first | go_big_quiet_step (fail) | quiet_step (fail)); refine wpQuiet_nil ?_
          refine GX.nil (by kernel_rfl) ?_
          clear Q0 hwB
          go_wp2_with fail
          go_ret2
          exact ⟨_, by rw [HF.out.2]; first | done | rfl, by rw [HF.out.1]; exact ownE_slE O7.out, B7.out⟩
        · refine xOp_eff rfl rfl rfl (.slice (some ⟨w1.heap.size, 0, none⟩) 1 1) (w1.drew.alloc (.cells (aa x) 29)) (by go_simp) (relE_lq below1) ?_
          simp only [Act.put, List.setIfInBounds_toArray, List.set_cons_zero, List.set_cons_succ]
          have F5 := aa_lit1 w1.drew x _ rfl
          have D4 : Below w1.heap.size w1 (w1.drew.alloc (.cells (aa x) 29)) := belowT (belowD (Below.refl _ _) 1) below1
          refine GX.branch1 1 (by kernel_rfl) ?_
          refine xOp_append KaaB rfl rfl rfl (.const (.slice none 0 0)) (.tmp 21) rfl (w1.drew.alloc (.cells (aa x) 29)).heap.size _ [] rfl (ownE_nil _ _ _) _ l rfl (slE_keep D4 S1.out) (by have := HL.out; have := HN.out; simp [maxLen]; omega) (by have := HL.out; have := HN.out; simp; omega) (Nat.le_refl _) (fun w' hb => relE_lq hb) ?_
          intro v5 w5 o5' g5
          have o5 := ownE_base o5' D4.size
          simp only [Act.put, List.setIfInBounds_toArray, List.set_cons_zero, List.set_cons_succ]
          obtain ⟨p5, c5, rfl⟩ := ownE_len o5 HL.out
          have E6 := Lib.hid o5
          have F6 := Lib.hid (slE_keep g5.nil F5)
          have D6 : Hid (Below w1.heap.size w1 w5) := belowT D4 g5.nil
          clear o5 o5' g5 F5 D4
          refine GX.branch1 4 (by kernel_rfl) ?_
          refine xOp_append KaaB rfl rfl rfl (.tmp 22) (.tmp 24) rfl w1.heap.size _ l rfl E6.out _ [x] rfl F6.out (by have := HL.out; have := HN.out; simp [maxLen]; omega) (by have := HL.out; have := HN.out; simp; omega) D6.out.size (fun w' hb => relE_tail (by kernel_rfl) (hb.mono hwB)) ?_
          intro v7 w7 o7 g7
          simp only [Act.put, List.setIfInBounds_toArray, List.set_cons_zero, List.set_cons_succ]
          have B7 := Lib.hid (belowT G1.out (D6.out.trans (g7.own E6.out D6.out.size)))
          have O7 := Lib.hid o7
          clear o7 g7
          refine GX.take2 5 rfl rfl rfl (by kernel_rfl) (by kernel_rfl) (by kernel_rfl) rfl hwB ?_
          (first | go_big_quiet_step (fail) | quiet_step (fail)); refine wpQuiet_nil ?_
          refine GX.take2 6 rfl rfl rfl (by kernel_rfl) (by kernel_rfl) (by kernel_rfl) rfl hwB ?_
          (first | go_big_quiet_step (fail) | quiet_step (fail)); refine wpQuiet_nil ?_
          refine GX.nil (by kernel_rfl) ?_
          clear Q0 hwB
          go_wp2_with fail
          go_ret2
          exact ⟨_, by rw [HF.out.2]; first | done | rfl, by rw [HF.out.1]; exact ownE_slE O7.out, B7.out⟩
theorem ref13Put (v : Value) (l : List Aa) (x : Aa) (w : World) (h : SlE Eaa w v l) (hn : l.length ≤ 1000) :
    Calls Try.prog 10 #[v, .agg (aa x)] w (AttsEr (putA l x) (putE l x) w) := by
  have k := h
  obtain ⟨p, cp, rfl, _⟩ := slE_shape h
  exact ref13Put_n p _ cp l x w k rfl hn
theorem enters_ref13Put : ∀ args w, (callFunc 10 args).run Try.prog w = .ok (.enter 10 args) w := entersE Try.func10 (by kernel_rfl) (by kernel_rfl)
end Go.Proofs.Ytljehgohcchocaa
