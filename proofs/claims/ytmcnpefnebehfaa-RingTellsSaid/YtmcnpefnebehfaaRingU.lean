/-
  The law RingTells, walked.
-/
import Derived.Test.YtmcnpefnebehfaaRingT
namespace Go.Proofs.Ytmcnpefnebehfaa
open Go.RowKit

theorem refPush_is (c : Int) (u : Value) (l : List Int) (x : Int) (tb : Bool) (k : List Int) (W : World) (h : SlI W u l) (h1 : pushB c l = tb) (h2 : pushL c l x = k) :
    Calls Try.prog 11 #[.agg #[.int .i64 c, u], .int .i64 x] W fun e w' => ∃ v, e = .returned (.tuple #[.agg #[.int .i64 c, v], .bool tb]) ∧ SlI w' v k ∧ Below W.heap.size W w' := by
  refine (refPush_any c u l x W h).mono ?_
  rintro e w' ⟨v, rfl, ho, _, hg⟩
  exact ⟨v, by rw [h1], by rw [← h2]; exact ho, hg⟩
theorem refPop_is (c : Int) (u : Value) (l : List Int) (y : Int) (tb : Bool) (k : List Int) (W : World) (h : SlI W u l) (h1 : popB c l = tb) (h2 : popL c l = k) (h3 : popX c l = y) :
    Calls Try.prog 13 #[.agg #[.int .i64 c, u]] W fun e w' => ∃ v, e = .returned (.tuple #[.agg #[.int .i64 c, v], .int .i64 y, .bool tb]) ∧ SlI w' v k ∧ Below W.heap.size W w' := by
  refine (refPop_any c u l W h).mono ?_
  rintro e w' ⟨v, rfl, ho, _, hg⟩
  exact ⟨v, by rw [h1, h3], by rw [← h2]; exact ho, hg⟩
theorem refRun_is (c : Int) (u : Value) (l : List Int) (vn : Value) (ns k t : List Int) (W : World) (h : SlI W u l) (hn : SlI W vn ns) (hnl : ns.length ≤ 1000) (h1 : goL c l ns = k) (h2 : goT c l ns = t) :
    Calls Try.prog 15 #[.agg #[.int .i64 c, u], vn] W fun e w' => ∃ v q, e = .returned (.tuple #[.agg #[.int .i64 c, v], q]) ∧ SlI w' v k ∧ SlI w' q t ∧ Below W.heap.size W w' := by
  refine (refRun_any c u l vn ns W h hn hnl).mono ?_
  rintro e w' ⟨v, q, rfl, ho, ho2, hg⟩
  exact ⟨v, q, rfl, by rw [← h1]; exact ho, by rw [← h2]; exact ho2, hg⟩
theorem refNew_is (n : Int) (w : World) (b : Bool) (h : roomB n = b) (m : Int) (hm : (if b = true then n else 0) = m) : Calls Try.prog 17 #[.int .i64 n] w fun e w' => e = .returned (.tuple #[.agg #[.int .i64 m, .slice none 0 0], .bool b]) ∧ Below w.heap.size w w' := by
  have := refNew_any n w
  unfold NewIs at this
  rwa [h, hm] at this
theorem refMay_is (c : Int) (p : Option Addr) (n cap : Nat) (l : List Int) (b : Bool) (W : World) (hn : l.length = n) (h : mayB c l = b) :
    Calls Try.prog 20 #[.agg #[.int .i64 c, .slice p n cap]] W fun e w' => e = .returned (.bool b) ∧ Below W.heap.size W w' := by
  subst hn h
  exact refMay_any c p cap l W
theorem goL_len (c : Int) (l ns : List Int) (h : l.length ≤ 100) : (goL c l ns).length ≤ 100 := by
  unfold goL
  split
  · rename_i hm
    have := run_len ns hm
    omega
  · exact h
theorem goT_len (c : Int) (l ns : List Int) : (goT c l ns).length ≤ ns.length := by
  unfold goT
  split
  · rw [toldL_length]; exact Nat.le_refl _
  · exact Nat.zero_le _

set_option maxRecDepth 100000 in
set_option maxHeartbeats 1000000 in
theorem ringTells_long (c : Int) (p : Option Addr) (cap n : Nat) (x : Int) (pl : Option Addr) (cl nl : Nat) (w : World) (h : 100 < n ∨ 100 < nl) :
    Calls Try.prog 3 #[.agg #[.int .i64 c, .slice p n cap], .int .i64 x, .slice pl nl cl] w fun e w' => e = .returned (.bool true) ∧ Below w.heap.size w w' := by
  have M0 : Hid ((w.alloc (rgO c (.slice p n cap))).heap[w.heap.size]? = some (rgO c (.slice p n cap))) := heap_alloc_last w _
  by_cases h1 : 100 < n
  · have z1 : decide ((100 : Int) < (n : Int)) = true := by simp; omega
    clear h h1
    go_enter Try.func3, Try.ntmps3
    go_wp2_with fail
    refine (awake_any _).mono ?_
    rintro e w1 ⟨rfl, g1⟩
    obtain ⟨x0, x1, _, _, xl⟩ := cells2 (blk_keep g1 M0.out)
    go_wp2_with fail
    go_ret
    exact ⟨rfl, belowT below1 g1⟩
  · have z1 : decide ((100 : Int) < (n : Int)) = false := by simp; omega
    have z2 : decide ((100 : Int) < (nl : Int)) = true := by simp; omega
    clear h h1
    go_enter Try.func3, Try.ntmps3
    go_wp2_with fail
    refine (awake_any _).mono ?_
    rintro e w1 ⟨rfl, g1⟩
    obtain ⟨x0, x1, _, _, xl⟩ := cells2 (blk_keep g1 M0.out)
    go_wp2_with fail
    go_ret
    exact ⟨rfl, belowT below1 g1⟩

set_option maxRecDepth 100000 in
set_option maxHeartbeats 2000000 in
theorem ringTells_short (c : Int) (p : Option Addr) (cap n : Nat) (l : List Int) (x : Int) (pl : Option Addr) (cl nl : Nat) (ns : List Int) (w : World) (h : SlI w (.slice p n cap) l) (hv : SlI w (.slice pl nl cl) ns) (hn : l.length = n) (hnn : ns.length = nl) (h1 : n ≤ 100) (h2 : nl ≤ 100) :
    Calls Try.prog 3 #[.agg #[.int .i64 c, .slice p n cap], .int .i64 x, .slice pl nl cl] w fun e w' => e = .returned (.bool true) ∧ Below w.heap.size w w' := by
  have z1 : decide ((100 : Int) < (n : Int)) = false := by simp; omega
  have z2 : decide ((100 : Int) < (nl : Int)) = false := by simp; omega
  have HC1 := Lib.hid (fun W h => push_is c (.slice p n cap) l x (pushB c l) (pushL c l x) W h (by omega) rfl rfl)
  have HC2 := Lib.hid (fun W h => refPush_is c (.slice p n cap) l x (pushB c l) (pushL c l x) W h rfl rfl)
  have HC3 := Lib.hid (fun W h => pop_is c (.slice p n cap) l (popX c l) (popB c l) (popL c l) W h (by omega) rfl rfl rfl)
  have HC4 := Lib.hid (fun W h => refPop_is c (.slice p n cap) l (popX c l) (popB c l) (popL c l) W h rfl rfl rfl)
  have HC5 := Lib.hid (fun W h hq => run_is c (.slice p n cap) l (.slice pl nl cl) ns (goL c l ns) (goT c l ns) W h hq (by omega) (by omega) rfl rfl)
  have HC6 := Lib.hid (fun W h hq => refRun_is c (.slice p n cap) l (.slice pl nl cl) ns (goL c l ns) (goT c l ns) W h hq (by omega) rfl rfl)
  obtain ⟨m, hm⟩ : ∃ m, (if roomB x = true then x else 0) = m := ⟨_, rfl⟩
  have HC7 := Lib.hid (fun W => new_is x W (roomB x) rfl m hm)
  have HC8 := Lib.hid (fun W => refNew_is x W (roomB x) rfl m hm)
  have HC9 := Lib.hid (fun W => refMay_is c p n cap l (mayB c l) W hn rfl)
  have HC10 := Lib.hid (fun W => may_is c p n cap l (mayB c l) W hn rfl)
  have L1 := Lib.hid (show (pushL c l x).length ≤ 1000 by have := push_len c l x; omega)
  have L2 := Lib.hid (show (popL c l).length ≤ 1000 by have := pop_len c l; omega)
  have L3 := Lib.hid (show (goL c l ns).length ≤ 1000 by have := goL_len c l ns (by omega); omega)
  have L4 := Lib.hid (show (goT c l ns).length ≤ 1000 by have := goT_len c l ns; omega)
  have Rr : Hid (Rg (w.alloc (rgO c (.slice p n cap))) w.heap.size c (.slice p n cap) l) := Rg.new h
  have Sl := Lib.hid (slI_keep (below1 (o := rgO c (.slice p n cap))) hv)
  have B := Lib.hid (below1 (w := w) (o := rgO c (.slice p n cap)))
  clear hn hnn h1 h2 h hv hm
  generalize pushL c l x = k1 at *
  generalize popL c l = k2 at *
  generalize goL c l ns = k3 at *
  generalize goT c l ns = t3 at *
  generalize pushB c l = b1 at *
  generalize popB c l = b2 at *
  generalize popX c l = y2 at *
  generalize roomB x = b3 at *
  generalize mayB c l = b4 at *
  go_enter Try.func3, Try.ntmps3
  go_wp2_with fail
  refine (awake_any _).mono ?_
  rintro e w1 ⟨rfl, g1⟩
  replace Rr := Lib.hid (Rr.out.keep g1)
  replace Sl := Lib.hid (slI_keep g1 Sl.out)
  replace B := Lib.hid (belowT B.out g1)
  clear g1
  obtain ⟨x00, x01, _, _, x0l⟩ := cells2 Rr.out.m
  go_wp2_with fail
  refine (HC1.out _ Rr.out.s).mono ?_
  rintro e w2 ⟨v2, rfl, s2, g2⟩
  clear x00 x01 x0l
  replace Rr := Lib.hid (Rr.out.keep (belowT g2 (below1 (o := rgO c v2))))
  replace Sl := Lib.hid (slI_keep (belowT g2 (below1 (o := rgO c v2))) Sl.out)
  replace B := Lib.hid (belowT B.out (belowT g2 (below1 (o := rgO c v2))))
  have Ra := Lib.hid (Rg.new (c := c) s2)
  obtain ⟨p2, cap2, rfl, _⟩ := slI_shape s2
  clear s2 g2
  obtain ⟨x00, x01, _, _, x0l⟩ := cells2 Rr.out.m
  go_wp2_with fail
  refine (HC2.out _ Rr.out.s).mono ?_
  rintro e w3 ⟨v3, rfl, s3, g3⟩
  clear x00 x01 x0l
  replace Rr := Lib.hid (Rr.out.keep (belowT g3 (below1 (o := rgO c v3))))
  replace Sl := Lib.hid (slI_keep (belowT g3 (below1 (o := rgO c v3))) Sl.out)
  replace Ra := Lib.hid (Ra.out.keep (belowT g3 (below1 (o := rgO c v3))))
  replace B := Lib.hid (belowT B.out (belowT g3 (below1 (o := rgO c v3))))
  have Rb := Lib.hid (Rg.new (c := c) s3)
  obtain ⟨p3, cap3, rfl, _⟩ := slI_shape s3
  clear s3 g3
  obtain ⟨x00, x01, _, _, x0l⟩ := cells2 Rr.out.m
  go_wp2_with fail
  refine (HC3.out _ Rr.out.s).mono ?_
  rintro e w4 ⟨v4, rfl, s4, g4⟩
  clear x00 x01 x0l
  replace Rr := Lib.hid (Rr.out.keep (belowT g4 (below1 (o := rgO c v4))))
  replace Sl := Lib.hid (slI_keep (belowT g4 (below1 (o := rgO c v4))) Sl.out)
  replace Ra := Lib.hid (Ra.out.keep (belowT g4 (below1 (o := rgO c v4))))
  replace Rb := Lib.hid (Rb.out.keep (belowT g4 (below1 (o := rgO c v4))))
  replace B := Lib.hid (belowT B.out (belowT g4 (below1 (o := rgO c v4))))
  have Rc := Lib.hid (Rg.new (c := c) s4)
  obtain ⟨p4, cap4, rfl, _⟩ := slI_shape s4
  clear s4 g4
  obtain ⟨x00, x01, _, _, x0l⟩ := cells2 Rr.out.m
  go_wp2_with fail
  refine (HC4.out _ Rr.out.s).mono ?_
  rintro e w5 ⟨v5, rfl, s5, g5⟩
  clear x00 x01 x0l
  replace Rr := Lib.hid (Rr.out.keep (belowT g5 (below1 (o := rgO c v5))))
  replace Sl := Lib.hid (slI_keep (belowT g5 (below1 (o := rgO c v5))) Sl.out)
  replace Ra := Lib.hid (Ra.out.keep (belowT g5 (below1 (o := rgO c v5))))
  replace Rb := Lib.hid (Rb.out.keep (belowT g5 (below1 (o := rgO c v5))))
  replace Rc := Lib.hid (Rc.out.keep (belowT g5 (below1 (o := rgO c v5))))
  replace B := Lib.hid (belowT B.out (belowT g5 (below1 (o := rgO c v5))))
  have Rd := Lib.hid (Rg.new (c := c) s5)
  obtain ⟨p5, cap5, rfl, _⟩ := slI_shape s5
  clear s5 g5
  obtain ⟨x00, x01, _, _, x0l⟩ := cells2 Rr.out.m
  go_wp2_with fail
  refine (HC5.out _ Rr.out.s Sl.out).mono ?_
  rintro e w6 ⟨v6, q6, rfl, s6, y6, g6⟩
  clear x00 x01 x0l
  replace Rr := Lib.hid (Rr.out.keep (belowT g6 (below1 (o := rgO c v6))))
  replace Sl := Lib.hid (slI_keep (belowT g6 (below1 (o := rgO c v6))) Sl.out)
  replace Ra := Lib.hid (Ra.out.keep (belowT g6 (below1 (o := rgO c v6))))
  replace Rb := Lib.hid (Rb.out.keep (belowT g6 (below1 (o := rgO c v6))))
  replace Rc := Lib.hid (Rc.out.keep (belowT g6 (below1 (o := rgO c v6))))
  replace Rd := Lib.hid (Rd.out.keep (belowT g6 (below1 (o := rgO c v6))))
  replace B := Lib.hid (belowT B.out (belowT g6 (below1 (o := rgO c v6))))
  have Ri := Lib.hid (Rg.new (c := c) s6)
  have QRi := Lib.hid (slI_keep (below1 (o := rgO c v6)) y6)
  obtain ⟨p6, cap6, rfl, _⟩ := slI_shape s6
  clear s6 g6 y6
  obtain ⟨x00, x01, _, _, x0l⟩ := cells2 Rr.out.m
  go_wp2_with fail
  refine (HC6.out _ Rr.out.s Sl.out).mono ?_
  rintro e w7 ⟨v7, q7, rfl, s7, y7, g7⟩
  clear x00 x01 x0l
  replace Rr := Lib.hid (Rr.out.keep (belowT g7 (below1 (o := rgO c v7))))
  replace Sl := Lib.hid (slI_keep (belowT g7 (below1 (o := rgO c v7))) Sl.out)
  replace Ra := Lib.hid (Ra.out.keep (belowT g7 (below1 (o := rgO c v7))))
  replace Rb := Lib.hid (Rb.out.keep (belowT g7 (below1 (o := rgO c v7))))
  replace Rc := Lib.hid (Rc.out.keep (belowT g7 (below1 (o := rgO c v7))))
  replace Rd := Lib.hid (Rd.out.keep (belowT g7 (below1 (o := rgO c v7))))
  replace Ri := Lib.hid (Ri.out.keep (belowT g7 (below1 (o := rgO c v7))))
  replace QRi := Lib.hid (slI_keep (belowT g7 (below1 (o := rgO c v7))) QRi.out)
  replace B := Lib.hid (belowT B.out (belowT g7 (below1 (o := rgO c v7))))
  have Rk := Lib.hid (Rg.new (c := c) s7)
  have QRk := Lib.hid (slI_keep (below1 (o := rgO c v7)) y7)
  obtain ⟨p7, cap7, rfl, _⟩ := slI_shape s7
  clear s7 g7 y7
  obtain ⟨x00, x01, _, _, x0l⟩ := cells2 Rr.out.m
  go_wp2_with fail
  refine (HC7.out _ ).mono ?_
  rintro e w8 ⟨rfl, g8⟩
  have s8 : SlI w8 (.slice none 0 0) [] := slI_nil _ _ _
  clear x00 x01 x0l
  replace Rr := Lib.hid (Rr.out.keep (belowT g8 (below1 (o := rgO m (.slice none 0 0)))))
  replace Sl := Lib.hid (slI_keep (belowT g8 (below1 (o := rgO m (.slice none 0 0)))) Sl.out)
  replace Ra := Lib.hid (Ra.out.keep (belowT g8 (below1 (o := rgO m (.slice none 0 0)))))
  replace Rb := Lib.hid (Rb.out.keep (belowT g8 (below1 (o := rgO m (.slice none 0 0)))))
  replace Rc := Lib.hid (Rc.out.keep (belowT g8 (below1 (o := rgO m (.slice none 0 0)))))
  replace Rd := Lib.hid (Rd.out.keep (belowT g8 (below1 (o := rgO m (.slice none 0 0)))))
  replace Ri := Lib.hid (Ri.out.keep (belowT g8 (below1 (o := rgO m (.slice none 0 0)))))
  replace QRi := Lib.hid (slI_keep (belowT g8 (below1 (o := rgO m (.slice none 0 0)))) QRi.out)
  replace Rk := Lib.hid (Rk.out.keep (belowT g8 (below1 (o := rgO m (.slice none 0 0)))))
  replace QRk := Lib.hid (slI_keep (belowT g8 (below1 (o := rgO m (.slice none 0 0)))) QRk.out)
  replace B := Lib.hid (belowT B.out (belowT g8 (below1 (o := rgO m (.slice none 0 0)))))
  have Rp := Lib.hid (Rg.new (c := m) s8)
  clear s8 g8
  obtain ⟨x00, x01, _, _, x0l⟩ := cells2 Rr.out.m
  go_wp2_with fail
  refine (HC8.out _ ).mono ?_
  rintro e w9 ⟨rfl, g9⟩
  have s9 : SlI w9 (.slice none 0 0) [] := slI_nil _ _ _
  clear x00 x01 x0l
  replace Rr := Lib.hid (Rr.out.keep (belowT g9 (below1 (o := rgO m (.slice none 0 0)))))
  replace Sl := Lib.hid (slI_keep (belowT g9 (below1 (o := rgO m (.slice none 0 0)))) Sl.out)
  replace Ra := Lib.hid (Ra.out.keep (belowT g9 (below1 (o := rgO m (.slice none 0 0)))))
  replace Rb := Lib.hid (Rb.out.keep (belowT g9 (below1 (o := rgO m (.slice none 0 0)))))
  replace Rc := Lib.hid (Rc.out.keep (belowT g9 (below1 (o := rgO m (.slice none 0 0)))))
  replace Rd := Lib.hid (Rd.out.keep (belowT g9 (below1 (o := rgO m (.slice none 0 0)))))
  replace Ri := Lib.hid (Ri.out.keep (belowT g9 (below1 (o := rgO m (.slice none 0 0)))))
  replace QRi := Lib.hid (slI_keep (belowT g9 (below1 (o := rgO m (.slice none 0 0)))) QRi.out)
  replace Rk := Lib.hid (Rk.out.keep (belowT g9 (below1 (o := rgO m (.slice none 0 0)))))
  replace QRk := Lib.hid (slI_keep (belowT g9 (below1 (o := rgO m (.slice none 0 0)))) QRk.out)
  replace Rp := Lib.hid (Rp.out.keep (belowT g9 (below1 (o := rgO m (.slice none 0 0)))))
  replace B := Lib.hid (belowT B.out (belowT g9 (below1 (o := rgO m (.slice none 0 0)))))
  have Rq := Lib.hid (Rg.new (c := m) s9)
  clear s9 g9
  obtain ⟨x00, x01, _, _, x0l⟩ := cells2 Ra.out.m
  obtain ⟨x10, x11, _, _, x1l⟩ := cells2 Rb.out.m
  go_wp2_with fail
  refine (same_is c c _ _ k1 k1 true _ Ra.out.s Rb.out.s L1.out (by simp)).mono ?_
  rintro e w10 ⟨rfl, g10⟩
  clear x00 x01 x0l x10 x11 x1l
  replace Rr := Lib.hid (Rr.out.keep g10)
  replace Sl := Lib.hid (slI_keep g10 Sl.out)
  replace Ra := Lib.hid (Ra.out.keep g10)
  replace Rb := Lib.hid (Rb.out.keep g10)
  replace Rc := Lib.hid (Rc.out.keep g10)
  replace Rd := Lib.hid (Rd.out.keep g10)
  replace Ri := Lib.hid (Ri.out.keep g10)
  replace QRi := Lib.hid (slI_keep g10 QRi.out)
  replace Rk := Lib.hid (Rk.out.keep g10)
  replace QRk := Lib.hid (slI_keep g10 QRk.out)
  replace Rp := Lib.hid (Rp.out.keep g10)
  replace Rq := Lib.hid (Rq.out.keep g10)
  replace B := Lib.hid (belowT B.out g10)
  clear g10
  obtain ⟨x00, x01, _, _, x0l⟩ := cells2 Rc.out.m
  obtain ⟨x10, x11, _, _, x1l⟩ := cells2 Rd.out.m
  go_wp2_with fail
  refine (same_is c c _ _ k2 k2 true _ Rc.out.s Rd.out.s L2.out (by simp)).mono ?_
  rintro e w11 ⟨rfl, g11⟩
  clear x00 x01 x0l x10 x11 x1l
  replace Rr := Lib.hid (Rr.out.keep g11)
  replace Sl := Lib.hid (slI_keep g11 Sl.out)
  replace Ra := Lib.hid (Ra.out.keep g11)
  replace Rb := Lib.hid (Rb.out.keep g11)
  replace Rc := Lib.hid (Rc.out.keep g11)
  replace Rd := Lib.hid (Rd.out.keep g11)
  replace Ri := Lib.hid (Ri.out.keep g11)
  replace QRi := Lib.hid (slI_keep g11 QRi.out)
  replace Rk := Lib.hid (Rk.out.keep g11)
  replace QRk := Lib.hid (slI_keep g11 QRk.out)
  replace Rp := Lib.hid (Rp.out.keep g11)
  replace Rq := Lib.hid (Rq.out.keep g11)
  replace B := Lib.hid (belowT B.out g11)
  clear g11
  obtain ⟨x00, x01, _, _, x0l⟩ := cells2 Ri.out.m
  obtain ⟨x10, x11, _, _, x1l⟩ := cells2 Rk.out.m
  go_wp2_with fail
  refine (same_is c c _ _ k3 k3 true _ Ri.out.s Rk.out.s L3.out (by simp)).mono ?_
  rintro e w12 ⟨rfl, g12⟩
  clear x00 x01 x0l x10 x11 x1l
  replace Rr := Lib.hid (Rr.out.keep g12)
  replace Sl := Lib.hid (slI_keep g12 Sl.out)
  replace Ra := Lib.hid (Ra.out.keep g12)
  replace Rb := Lib.hid (Rb.out.keep g12)
  replace Rc := Lib.hid (Rc.out.keep g12)
  replace Rd := Lib.hid (Rd.out.keep g12)
  replace Ri := Lib.hid (Ri.out.keep g12)
  replace QRi := Lib.hid (slI_keep g12 QRi.out)
  replace Rk := Lib.hid (Rk.out.keep g12)
  replace QRk := Lib.hid (slI_keep g12 QRk.out)
  replace Rp := Lib.hid (Rp.out.keep g12)
  replace Rq := Lib.hid (Rq.out.keep g12)
  replace B := Lib.hid (belowT B.out g12)
  clear g12
  obtain ⟨x00, x01, _, _, x0l⟩ := cells2 Rr.out.m
  go_wp2_with fail
  refine (ints_is _ _ t3 t3 true _ QRi.out QRk.out L4.out (by simp)).mono ?_
  rintro e w13 ⟨rfl, g13⟩
  clear x00 x01 x0l
  replace Rr := Lib.hid (Rr.out.keep g13)
  replace Sl := Lib.hid (slI_keep g13 Sl.out)
  replace Ra := Lib.hid (Ra.out.keep g13)
  replace Rb := Lib.hid (Rb.out.keep g13)
  replace Rc := Lib.hid (Rc.out.keep g13)
  replace Rd := Lib.hid (Rd.out.keep g13)
  replace Ri := Lib.hid (Ri.out.keep g13)
  replace QRi := Lib.hid (slI_keep g13 QRi.out)
  replace Rk := Lib.hid (Rk.out.keep g13)
  replace QRk := Lib.hid (slI_keep g13 QRk.out)
  replace Rp := Lib.hid (Rp.out.keep g13)
  replace Rq := Lib.hid (Rq.out.keep g13)
  replace B := Lib.hid (belowT B.out g13)
  clear g13
  obtain ⟨x00, x01, _, _, x0l⟩ := cells2 Rp.out.m
  obtain ⟨x10, x11, _, _, x1l⟩ := cells2 Rq.out.m
  go_wp2_with fail
  refine (same_is m m _ _ [] [] true _ Rp.out.s Rq.out.s (by simp) (by simp)).mono ?_
  rintro e w14 ⟨rfl, g14⟩
  clear x00 x01 x0l x10 x11 x1l
  replace Rr := Lib.hid (Rr.out.keep g14)
  replace Sl := Lib.hid (slI_keep g14 Sl.out)
  replace Ra := Lib.hid (Ra.out.keep g14)
  replace Rb := Lib.hid (Rb.out.keep g14)
  replace Rc := Lib.hid (Rc.out.keep g14)
  replace Rd := Lib.hid (Rd.out.keep g14)
  replace Ri := Lib.hid (Ri.out.keep g14)
  replace QRi := Lib.hid (slI_keep g14 QRi.out)
  replace Rk := Lib.hid (Rk.out.keep g14)
  replace QRk := Lib.hid (slI_keep g14 QRk.out)
  replace Rp := Lib.hid (Rp.out.keep g14)
  replace Rq := Lib.hid (Rq.out.keep g14)
  replace B := Lib.hid (belowT B.out g14)
  clear g14
  obtain ⟨x00, x01, _, _, x0l⟩ := cells2 Rr.out.m
  go_wp2_with fail
  refine (HC9.out _).mono ?_
  rintro e w15 ⟨rfl, g15⟩
  clear x00 x01 x0l
  replace Rr := Lib.hid (Rr.out.keep g15)
  replace Sl := Lib.hid (slI_keep g15 Sl.out)
  replace Ra := Lib.hid (Ra.out.keep g15)
  replace Rb := Lib.hid (Rb.out.keep g15)
  replace Rc := Lib.hid (Rc.out.keep g15)
  replace Rd := Lib.hid (Rd.out.keep g15)
  replace Ri := Lib.hid (Ri.out.keep g15)
  replace QRi := Lib.hid (slI_keep g15 QRi.out)
  replace Rk := Lib.hid (Rk.out.keep g15)
  replace QRk := Lib.hid (slI_keep g15 QRk.out)
  replace Rp := Lib.hid (Rp.out.keep g15)
  replace Rq := Lib.hid (Rq.out.keep g15)
  replace B := Lib.hid (belowT B.out g15)
  clear g15
  obtain ⟨x00, x01, _, _, x0l⟩ := cells2 Rr.out.m
  go_wp2_with fail
  refine (HC10.out _).mono ?_
  rintro e w16 ⟨rfl, g16⟩
  clear x00 x01 x0l
  replace Rr := Lib.hid (Rr.out.keep g16)
  replace Sl := Lib.hid (slI_keep g16 Sl.out)
  replace Ra := Lib.hid (Ra.out.keep g16)
  replace Rb := Lib.hid (Rb.out.keep g16)
  replace Rc := Lib.hid (Rc.out.keep g16)
  replace Rd := Lib.hid (Rd.out.keep g16)
  replace Ri := Lib.hid (Ri.out.keep g16)
  replace QRi := Lib.hid (slI_keep g16 QRi.out)
  replace Rk := Lib.hid (Rk.out.keep g16)
  replace QRk := Lib.hid (slI_keep g16 QRk.out)
  replace Rp := Lib.hid (Rp.out.keep g16)
  replace Rq := Lib.hid (Rq.out.keep g16)
  replace B := Lib.hid (belowT B.out g16)
  clear g16
  go_wp2_with fail
  go_ret
  exact ⟨by simp, B.out⟩
theorem ringTells_walk (c : Int) (v : Value) (l : List Int) (x : Int) (vn : Value) (ns : List Int) (w : World) (h : SlI w v l) (hn : SlI w vn ns) :
    Calls Try.prog 3 #[.agg #[.int .i64 c, v], .int .i64 x, vn] w fun e w' => e = .returned (.bool true) ∧ Below w.heap.size w w' := by
  have hs := h
  have hns := hn
  obtain ⟨p, cap, rfl, _⟩ := slI_shape h
  obtain ⟨q, ncap, rfl, _⟩ := slI_shape hn
  by_cases hl : 100 < l.length ∨ 100 < ns.length
  · exact ringTells_long c p cap _ x q ncap _ w hl
  · exact ringTells_short c p cap _ l x q ncap _ ns w hs hns rfl rfl (by omega) (by omega)
end Go.Proofs.Ytmcnpefnebehfaa
