/-
  The laws RingBack and RingRoom, walked.
-/
import Derived.Test.YtmcnpefnebehfaaRingO
namespace Go.Proofs.Ytmcnpefnebehfaa
open Go.RowKit

theorem push_is (c : Int) (u : Value) (l : List Int) (x : Int) (tb : Bool) (k : List Int) (W : World) (h : SlI W u l) (hl : l.length ≤ 1000) (h1 : pushB c l = tb) (h2 : pushL c l x = k) :
    Calls Try.prog 10 #[.agg #[.int .i64 c, u], .int .i64 x] W fun e w' => ∃ v, e = .returned (.tuple #[.agg #[.int .i64 c, v], .bool tb]) ∧ SlI w' v k ∧ Below W.heap.size W w' := by
  refine (rpush_any c u l x W h hl).mono ?_
  rintro e w' ⟨v, rfl, ho, hg⟩
  exact ⟨v, by rw [h1], by rw [← h2]; exact ownI_slI ho, hg⟩
theorem pop_is (c : Int) (u : Value) (l : List Int) (y : Int) (tb : Bool) (k : List Int) (W : World) (h : SlI W u l) (hl : l.length ≤ 1000) (h1 : popB c l = tb) (h2 : popL c l = k) (h3 : popX c l = y) :
    Calls Try.prog 12 #[.agg #[.int .i64 c, u]] W fun e w' => ∃ v, e = .returned (.tuple #[.agg #[.int .i64 c, v], .int .i64 y, .bool tb]) ∧ SlI w' v k ∧ Below W.heap.size W w' := by
  refine (rpop_any c u l W h hl).mono ?_
  rintro e w' ⟨v, rfl, ho, hg⟩
  exact ⟨v, by rw [h1, h3], by rw [← h2]; exact ownI_slI ho, hg⟩
theorem run_is (c : Int) (u : Value) (l : List Int) (vn : Value) (ns k t : List Int) (W : World) (h : SlI W u l) (hn : SlI W vn ns) (hl : l.length ≤ 1000) (hnl : ns.length ≤ 1000) (h1 : goL c l ns = k) (h2 : goT c l ns = t) :
    Calls Try.prog 14 #[.agg #[.int .i64 c, u], vn] W fun e w' => ∃ v q, e = .returned (.tuple #[.agg #[.int .i64 c, v], q]) ∧ SlI w' v k ∧ SlI w' q t ∧ Below W.heap.size W w' := by
  refine (rrun_any c u l vn ns W h hn hl hnl).mono ?_
  rintro e w' ⟨v, q, rfl, ho, ho2, hg⟩
  exact ⟨v, q, rfl, by rw [← h1]; exact ownI_slI ho, by rw [← h2]; exact ownI_slI ho2, hg⟩
theorem may_is (c : Int) (p : Option Addr) (n cap : Nat) (l : List Int) (b : Bool) (W : World) (hn : l.length = n) (h : mayB c l = b) :
    Calls Try.prog 21 #[.agg #[.int .i64 c, .slice p n cap]] W fun e w' => e = .returned (.bool b) ∧ Below W.heap.size W w' := by
  subst hn h
  exact may_any c p cap l W
theorem slI_len {W : World} {v : Value} {l : List Int} {n : Nat} (h : SlI W v l) (hn : l.length = n) : ∃ p cap, v = .slice p n cap := by
  subst hn
  obtain ⟨p, cap, e, _⟩ := slI_shape h
  exact ⟨p, cap, e⟩

set_option maxRecDepth 100000 in
set_option maxHeartbeats 1000000 in
theorem ringBack_off (c x y : Int) (w : World) (hc : roomB c = false ∨ (roomB c = true ∧ c < 2)) :
    Calls Try.prog 8 #[.int .i64 c, .int .i64 x, .int .i64 y] w fun e w' => e = .returned (.bool true) ∧ Below w.heap.size w w' := by
  rcases hc with hc | ⟨hc, hc2⟩
  · have HC := Lib.hid (fun W => new_is c W false hc 0 rfl)
    clear hc
    go_enter Try.func8, Try.ntmps8
    go_wp2_with fail
    refine (awake_any _).mono ?_
    rintro e w1 ⟨rfl, g1⟩
    go_wp2_with fail
    refine (HC.out _).mono ?_
    rintro e w2 ⟨rfl, g2⟩
    go_wp2_with fail
    go_ret
    exact ⟨rfl, belowT g1 (belowT g2 below1)⟩
  · have HC := Lib.hid (fun W => new_is c W true hc c rfl)
    clear hc
    go_enter Try.func8, Try.ntmps8
    go_wp2_with fail
    refine (awake_any _).mono ?_
    rintro e w1 ⟨rfl, g1⟩
    go_wp2_with fail
    refine (HC.out _).mono ?_
    rintro e w2 ⟨rfl, g2⟩
    go_wp2_with fail
    go_ret
    exact ⟨rfl, belowT g1 (belowT g2 below1)⟩

set_option maxRecDepth 100000 in
set_option maxHeartbeats 1000000 in
theorem ringBack_on (c x y : Int) (w : World) (hc : roomB c = true) (hc2 : 2 ≤ c) :
    Calls Try.prog 8 #[.int .i64 c, .int .i64 x, .int .i64 y] w fun e w' => e = .returned (.bool true) ∧ Below w.heap.size w w' := by
  have h8 : c ≤ 8 := by unfold roomB at hc; rw [decide_eq_true_iff] at hc; exact hc.2
  have m0 : mayB c [] = true := by rw [mayB_iff]; simp; omega
  have m1 : mayB c [x] = true := by rw [mayB_iff]; simp; omega
  have m2 : mayB c [x, y] = true := by rw [mayB_iff]; simp; omega
  have m3 : mayB c [y] = true := by rw [mayB_iff]; simp; omega
  have b0 : pushB c [] = true := by simp [pushB, m0]; omega
  have b1 : pushB c [x] = true := by simp [pushB, m1]; omega
  have d2 : popB c [x, y] = true := by simp [popB, m2]
  have d1 : popB c [y] = true := by simp [popB, m3]
  have d0 : popB c [] = false := by simp [popB]
  have HN := Lib.hid (fun W => new_is c W true hc c rfl)
  have HP1 := Lib.hid (fun W => push_is c (.slice none 0 0) [] x true [x] W (slI_nil _ _ _) (by simp) b0 (by simp [pushL, b0]))
  have HP2 := Lib.hid (fun W v h => push_is c v [x] y true [x, y] W h (by simp) b1 (by simp [pushL, b1]))
  have HQ1 := Lib.hid (fun W v h => pop_is c v [x, y] x true [y] W h (by simp) d2 (by simp [popL, d2]) (by simp [popX, d2, it]))
  have HQ2 := Lib.hid (fun W v h => pop_is c v [y] y true [] W h (by simp) d1 (by simp [popL, d1]) (by simp [popX, d1, it]))
  have HQ3 := Lib.hid (fun W v h => pop_is c v [] 0 false [] W h (by simp) d0 (by simp [popL, d0]) (by simp [popX, d0]))
  clear m0 m1 m2 m3 b0 b1 d0 d1 d2 hc h8
  go_enter Try.func8, Try.ntmps8
  go_wp2_with fail
  refine (awake_any _).mono ?_
  rintro e w1 ⟨rfl, g1⟩
  have B1 := Lib.hid g1
  clear g1
  go_wp2_with fail
  refine (HN.out _).mono ?_
  rintro e w2 ⟨rfl, g2⟩
  have B2 := Lib.hid (belowT B1.out (belowT g2 (below1 (o := rgO c (.slice none 0 0)))))
  clear g2
  go_wp2_with fail
  refine (HP1.out _).mono ?_
  rintro e w3 ⟨v3, rfl, s3, g3⟩
  have S3 := Lib.hid s3
  have B3 := Lib.hid (belowT B2.out (belowT g3 (below1 (o := rgO c v3))))
  obtain ⟨p3, cap3, rfl⟩ := slI_len (n := 1) s3 rfl
  clear s3 g3
  go_wp2_with fail
  refine (HP2.out _ _ (slI_keep below1 S3.out)).mono ?_
  rintro e w4 ⟨v4, rfl, s4, g4⟩
  have S4 := Lib.hid s4
  have B4 := Lib.hid (belowT B3.out (belowT g4 (below1 (o := rgO c v4))))
  obtain ⟨p4, cap4, rfl⟩ := slI_len (n := 2) s4 rfl
  clear s4 g4
  go_wp2_with fail
  refine (HQ1.out _ _ (slI_keep below1 S4.out)).mono ?_
  rintro e w5 ⟨v5, rfl, s5, g5⟩
  have R5 := Lib.hid (Rg.new (c := c) s5)
  have B5 := Lib.hid (belowT B4.out (belowT g5 (below1 (o := rgO c v5))))
  obtain ⟨p5, cap5, rfl⟩ := slI_len (n := 1) s5 rfl
  clear s5 g5
  go_wp2_with fail
  refine (HQ2.out _ _ R5.out.s).mono ?_
  rintro e w6 ⟨v6, rfl, s6, g6⟩
  have R6 := Lib.hid (Rg.new (c := c) s6)
  have T5 := Lib.hid (R5.out.keep (belowT g6 (below1 (o := rgO c v6))))
  have B6 := Lib.hid (belowT B5.out (belowT g6 (below1 (o := rgO c v6))))
  obtain ⟨p6, cap6, rfl⟩ := slI_len (n := 0) s6 rfl
  clear s6 g6
  go_wp2_with fail
  refine (HQ3.out _ _ R6.out.s).mono ?_
  rintro e w7 ⟨v7, rfl, s7, g7⟩
  have R7 := Lib.hid (R6.out.keep g7)
  have T7 := Lib.hid (T5.out.keep g7)
  have B7 := Lib.hid (belowT B6.out (belowT g7 (below1 (o := rgO c v7))))
  obtain ⟨p7, cap7, rfl⟩ := slI_len (n := 0) s7 rfl
  obtain ⟨x0, x1, _, _, xl⟩ := cells2 R7.out.m
  obtain ⟨y0, y1, _, _, yl⟩ := cells2 T7.out.m
  clear s7 g7
  go_wp2_with fail
  go_ret
  exact ⟨rfl, B7.out⟩
theorem ringBack_walk (c x y : Int) (w : World) :
    Calls Try.prog 8 #[.int .i64 c, .int .i64 x, .int .i64 y] w fun e w' => e = .returned (.bool true) ∧ Below w.heap.size w w' := by
  cases h : roomB c with
  | false => exact ringBack_off c x y w (.inl h)
  | true =>
    by_cases h2 : c < 2
    · exact ringBack_off c x y w (.inr ⟨h, h2⟩)
    · exact ringBack_on c x y w h (by omega)
end Go.Proofs.Ytmcnpefnebehfaa
