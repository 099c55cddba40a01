/-
  The law RingRoom, walked.
-/
import Derived.Test.YtmcnpefnebehfaaRingQ
namespace Go.Proofs.Ytmcnpefnebehfaa
open Go.RowKit

set_option maxRecDepth 100000 in
set_option maxHeartbeats 1000000 in
theorem ringRoom_no (c : Int) (p : Option Addr) (cap n : Nat) (l : List Int) (x : Int) (w : World) (hn : l.length = n) (hm : mayB c l = false) :
    Calls Try.prog 5 #[.agg #[.int .i64 c, .slice p n cap], .int .i64 x] w fun e w' => e = .returned (.bool true) ∧ Below w.heap.size w w' := by
  have HC := Lib.hid (fun W => may_is c p n cap l false W hn hm)
  have M0 : Hid ((w.alloc (rgO c (.slice p n cap))).heap[w.heap.size]? = some (rgO c (.slice p n cap))) := heap_alloc_last w _
  clear hn hm
  go_enter Try.func5, Try.ntmps5
  go_wp2_with fail
  refine (awake_any _).mono ?_
  rintro e w1 ⟨rfl, g1⟩
  obtain ⟨x0, x1, _, _, xl⟩ := cells2 (blk_keep g1 M0.out)
  go_wp2_with fail
  refine (HC.out _).mono ?_
  rintro e w2 ⟨rfl, g2⟩
  go_wp2_with fail
  go_ret
  exact ⟨rfl, belowT (belowT below1 g1) g2⟩

set_option maxRecDepth 100000 in
set_option maxHeartbeats 1000000 in
theorem ringRoom_full (c : Int) (p : Option Addr) (cap n : Nat) (l : List Int) (x : Int) (w : World) (h : SlI w (.slice p n cap) l) (hn : l.length = n) (hm : mayB c l = true) (hc : (n : Int) = c) :
    Calls Try.prog 5 #[.agg #[.int .i64 c, .slice p n cap], .int .i64 x] w fun e w' => e = .returned (.bool true) ∧ Below w.heap.size w w' := by
  have hl : l.length ≤ 8 := may_len hm
  have e1 : pushB c l = false := by unfold pushB; rw [hm, Bool.true_and, decide_eq_false_iff_not]; omega
  have e2 : pushL c l x = l := by unfold pushL; rw [e1]; rfl
  have HM := Lib.hid (fun W p cap => may_is c p n cap l true W hn hm)
  have HP := Lib.hid (fun W h => push_is c (.slice p n cap) l x false l W h (by omega) e1 e2)
  obtain ⟨tb, htb⟩ : ∃ tb, tb = decide (0 < (n : Int)) := ⟨_, rfl⟩
  have hpb : popB c l = tb := by rw [htb]; unfold popB; rw [hm, Bool.true_and, hn]; simp
  obtain ⟨m, hmm⟩ : ∃ m, m = (popL c l).length := ⟨_, rfl⟩
  have HQ := Lib.hid (fun W v h => pop_is c v l (popX c l) tb (popL c l) W h (by omega) hpb rfl rfl)
  have HMT := Lib.hid (fun W p cap => may_is c p m cap (popL c l) true W hmm.symm (pop_may hm))
  have HPL : Hid ((popL c l).length = m) := hmm.symm
  have HSM := Lib.hid (fun W v u (h1 : SlI W v l) (h2 : SlI W u l) => refSame_any c c v u l l W h1 h2 (by omega))
  have t1 : decide ((n : Int) < c) = false := by rw [decide_eq_false_iff_not]; omega
  have R0 : Hid (Rg (w.alloc (rgO c (.slice p n cap))) w.heap.size c (.slice p n cap) l) := Rg.new h
  have HN := Lib.hid hn
  have t2 : decide (0 < n) = tb := by rw [htb]; simp
  clear hn hm hc h hl e1 e2 htb hpb hmm
  generalize popX c l = y at *
  generalize popL c l = k at *
  go_enter Try.func5, Try.ntmps5
  go_wp2_with fail
  refine (awake_any _).mono ?_
  rintro e w1 ⟨rfl, g1⟩
  have R1 := Lib.hid (R0.out.keep g1)
  have B1 := Lib.hid (belowT (below1 (o := rgO c (.slice p n cap))) g1)
  obtain ⟨x0, x1, _, _, xl⟩ := cells2 R1.out.m
  clear g1
  go_wp2_with fail
  refine (HM.out _ _ _).mono ?_
  rintro e w2 ⟨rfl, g2⟩
  have R2 := Lib.hid (R1.out.keep g2)
  have B2 := Lib.hid (belowT B1.out g2)
  clear g2 x0 x1 xl
  obtain ⟨x0, x1, _, _, xl⟩ := cells2 R2.out.m
  go_wp2_with fail
  refine (HP.out _ R2.out.s).mono ?_
  rintro e w3 ⟨v3, rfl, s3, g3⟩
  have R3 := Lib.hid ((R2.out.keep g3).keep (below1 (o := rgO c v3)))
  have S3 := Lib.hid (Rg.new (c := c) s3)
  have B3 := Lib.hid (belowT B2.out (belowT g3 (below1 (o := rgO c v3))))
  obtain ⟨p3, cap3, rfl⟩ := slI_len (n := n) s3 HN.out
  clear g3 s3 x0 x1 xl
  obtain ⟨x0, x1, _, _, xl⟩ := cells2 R3.out.m
  go_wp2_with fail
  refine (HM.out _ _ _).mono ?_
  rintro e w4 ⟨rfl, g4⟩
  have R4 := Lib.hid (R3.out.keep g4)
  have S4 := Lib.hid (S3.out.keep g4)
  have B4 := Lib.hid (belowT B3.out g4)
  clear g4 x0 x1 xl
  obtain ⟨y0, y1, _, _, yl⟩ := cells2 S4.out.m
  go_wp2_with fail
  refine (HQ.out _ _ S4.out.s).mono ?_
  rintro e w5 ⟨v5, rfl, s5, g5⟩
  have R5 := Lib.hid ((R4.out.keep g5).keep (below1 (o := rgO c v5)))
  have S5 := Lib.hid ((S4.out.keep g5).keep (below1 (o := rgO c v5)))
  have B5 := Lib.hid (belowT B4.out (belowT g5 (below1 (o := rgO c v5))))
  obtain ⟨p5, cap5, rfl⟩ := slI_len (n := m) s5 HPL.out
  clear g5 s5 y0 y1 yl
  obtain ⟨y0, y1, _, _, yl⟩ := cells2 S5.out.m
  go_wp2_with fail
  refine (HMT.out _ _ _).mono ?_
  rintro e w6 ⟨rfl, g6⟩
  have R6 := Lib.hid (R5.out.keep g6)
  have S6 := Lib.hid (S5.out.keep g6)
  have B6 := Lib.hid (belowT B5.out g6)
  clear g6 y0 y1 yl
  obtain ⟨x0, x1, _, _, xl⟩ := cells2 R6.out.m
  obtain ⟨y0, y1, _, _, yl⟩ := cells2 S6.out.m
  go_wp2_with fail
  refine (HSM.out _ _ _ S6.out.s R6.out.s).mono ?_
  rintro e w7 ⟨rfl, g7⟩
  go_wp2_with fail
  go_ret
  exact ⟨by simp, belowT B6.out g7⟩

set_option maxRecDepth 100000 in
set_option maxHeartbeats 1000000 in
theorem ringRoom_yes (c : Int) (p : Option Addr) (cap n : Nat) (l : List Int) (x : Int) (w : World) (h : SlI w (.slice p n cap) l) (hn : l.length = n) (hm : mayB c l = true) (hc : (n : Int) < c) :
    Calls Try.prog 5 #[.agg #[.int .i64 c, .slice p n cap], .int .i64 x] w fun e w' => e = .returned (.bool true) ∧ Below w.heap.size w w' := by
  have hl : l.length ≤ 8 := may_len hm
  have e1 : pushB c l = true := by unfold pushB; rw [hm, Bool.true_and, decide_eq_true_iff]; omega
  have e2 : pushL c l x = l ++ [x] := by unfold pushL; rw [e1]; rfl
  have hmk : mayB c (l ++ [x]) = true := by rw [mayB_iff] at *; simp; omega
  have HM := Lib.hid (fun W p cap => may_is c p n cap l true W hn hm)
  have HP := Lib.hid (fun W h => push_is c (.slice p n cap) l x true (l ++ [x]) W h (by omega) e1 e2)
  obtain ⟨m, hmm⟩ : ∃ m, m = n + 1 := ⟨_, rfl⟩
  have hkl : (l ++ [x]).length = m := by simp; omega
  have HM2 := Lib.hid (fun W p cap => may_is c p m cap (l ++ [x]) true W hkl hmk)
  have f1 : popB c (l ++ [x]) = true := by unfold popB; rw [hmk, Bool.true_and, hkl]; simp; omega
  have f2 : popL c (l ++ [x]) = (l ++ [x]).drop 1 := by unfold popL; rw [f1]; rfl
  have f3 : popX c (l ++ [x]) = it (l ++ [x]) 0 := by unfold popX; rw [f1]; rfl
  have HQ := Lib.hid (fun W v h => pop_is c v (l ++ [x]) (it (l ++ [x]) 0) true ((l ++ [x]).drop 1) W h (by omega) f1 f2 f3)
  have htl : ((l ++ [x]).drop 1).length = n := by simp; omega
  have HM3 := Lib.hid (fun W p cap => may_is c p n cap ((l ++ [x]).drop 1) true W htl (by rw [← f2]; exact pop_may hmk))
  have HKL := Lib.hid hkl
  have HTL := Lib.hid htl
  have hcm : (m : Int) = (n : Int) + 1 := by omega
  have t2 : decide (0 < m) = true := by rw [decide_eq_true_iff]; omega
  have t3 : ((m : Int) == (n : Int) + 1) = true := by simp; omega
  have u1 : (n : Int) + 1 < 100 := by omega
  have HY : Hid (it (l ++ [x]) 0 = if n = 0 then x else it l 0) := by
    show _ = _
    by_cases e : n = 0
    · rw [if_pos e]; have : l = [] := List.length_eq_zero_iff.1 (by omega); subst this; rfl
    · rw [if_neg e]; unfold it; rw [List.getD_eq_getElem?_getD, List.getD_eq_getElem?_getD, List.getElem?_append_left (show 0 < l.length by omega)]
  have R0 : Hid (Rg (w.alloc (rgO c (.slice p n cap))) w.heap.size c (.slice p n cap) l) := Rg.new h
  have HN := Lib.hid hn
  clear hn hm h hl e1 e2 hmk hkl f1 f2 f3 htl hmm hcm
  generalize hyy : it (l ++ [x]) 0 = y at *
  generalize (l ++ [x]).drop 1 = k2 at *
  generalize l ++ [x] = k at *
  clear hyy
  go_enter Try.func5, Try.ntmps5
  go_wp2_with fail
  refine (awake_any _).mono ?_
  rintro e w1 ⟨rfl, g1⟩
  have R1 := Lib.hid (R0.out.keep g1)
  have B1 := Lib.hid (belowT (below1 (o := rgO c (.slice p n cap))) g1)
  obtain ⟨x0, x1, _, _, xl⟩ := cells2 R1.out.m
  clear g1
  go_wp2_with fail
  refine (HM.out _ _ _).mono ?_
  rintro e w2 ⟨rfl, g2⟩
  have R2 := Lib.hid (R1.out.keep g2)
  have B2 := Lib.hid (belowT B1.out g2)
  clear g2 x0 x1 xl
  obtain ⟨x0, x1, _, _, xl⟩ := cells2 R2.out.m
  go_wp2_with fail
  refine (HP.out _ R2.out.s).mono ?_
  rintro e w3 ⟨v3, rfl, s3, g3⟩
  have R3 := Lib.hid ((R2.out.keep g3).keep (below1 (o := rgO c v3)))
  have S3 := Lib.hid (Rg.new (c := c) s3)
  have B3 := Lib.hid (belowT B2.out (belowT g3 (below1 (o := rgO c v3))))
  obtain ⟨p3, cap3, rfl⟩ := slI_len (n := m) s3 HKL.out
  clear g3 s3 x0 x1 xl
  obtain ⟨x0, x1, _, _, xl⟩ := cells2 R3.out.m
  go_wp2_with fail
  refine (HM2.out _ _ _).mono ?_
  rintro e w4 ⟨rfl, g4⟩
  have R4 := Lib.hid (R3.out.keep g4)
  have S4 := Lib.hid (S3.out.keep g4)
  have B4 := Lib.hid (belowT B3.out g4)
  clear g4 x0 x1 xl
  obtain ⟨y0, y1, _, _, yl⟩ := cells2 S4.out.m
  go_wp2_with fail
  refine (HQ.out _ _ S4.out.s).mono ?_
  rintro e w5 ⟨v5, rfl, s5, g5⟩
  have R5 := Lib.hid ((R4.out.keep g5).keep (below1 (o := rgO c v5)))
  have S5 := Lib.hid ((S4.out.keep g5).keep (below1 (o := rgO c v5)))
  have T5 := Lib.hid (Rg.new (c := c) s5)
  have B5 := Lib.hid (belowT B4.out (belowT g5 (below1 (o := rgO c v5))))
  obtain ⟨p5, cap5, rfl⟩ := slI_len (n := n) s5 HTL.out
  clear g5 s5 y0 y1 yl
  obtain ⟨y0, y1, _, _, yl⟩ := cells2 S5.out.m
  go_wp2_with fail
  refine (HM3.out _ _ _).mono ?_
  rintro e w6 ⟨rfl, g6⟩
  have R6 := Lib.hid (R5.out.keep g6)
  have B6 := Lib.hid (belowT B5.out g6)
  obtain ⟨x0, x1, _, _, xl⟩ := cells2 R6.out.m
  obtain ⟨z0, z1, _, _, zl⟩ := cells2 (S5.out.keep g6).m
  obtain ⟨q0, q1, _, _, ql⟩ := cells2 (T5.out.keep g6).m
  clear g6 y0 y1 yl
  by_cases hz : n = 0
  · subst hz
    have t4 : ((m : Int) == 1) = true := by simpa using t3
    have hxy : y = x := by rw [HY.out, if_pos rfl]
    subst hxy
    go_wp2_with fail
    go_ret
    exact ⟨rfl, B6.out⟩
  · obtain ⟨b, off, cap', e1, _, _, hx⟩ := slI_ne R6.out.s (by have := HN.out; omega)
    injection e1 with e2 e4 e3
    subst e2 e3
    clear e4
    have hxy : it l 0 = y := by rw [HY.out, if_neg hz]
    have hc0 : w6.cell? ⟨b, off, none⟩ = some (.int .i64 y) := by rw [← hxy]; exact hx 0 (by have := HN.out; omega)
    have i1 : (0 : Int) < (n : Int) := by omega
    have i2 : decide (0 < n) = true := by rw [decide_eq_true_iff]; omega
    clear hx hxy HY
    go_wp2_with fail
    go_ret
    exact ⟨rfl, B6.out⟩
theorem ringRoom_walk (c : Int) (v : Value) (l : List Int) (x : Int) (w : World) (h : SlI w v l) :
    Calls Try.prog 5 #[.agg #[.int .i64 c, v], .int .i64 x] w fun e w' => e = .returned (.bool true) ∧ Below w.heap.size w w' := by
  have hs := h
  obtain ⟨p, cap, rfl, _⟩ := slI_shape h
  cases hm : mayB c l with
  | false => exact ringRoom_no c p cap _ l x w rfl hm
  | true =>
    have := mayB_iff.1 hm
    by_cases e : (l.length : Int) < c
    · exact ringRoom_yes c p cap _ l x w hs rfl hm e
    · exact ringRoom_full c p cap _ l x w hs rfl hm (by omega)
end Go.Proofs.Ytmcnpefnebehfaa
