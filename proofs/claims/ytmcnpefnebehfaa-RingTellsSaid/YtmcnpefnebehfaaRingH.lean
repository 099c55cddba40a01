/-
  Package ring: Run, walked.
-/
import Derived.Test.YtmcnpefnebehfaaRingG
namespace Go.Proofs.Ytmcnpefnebehfaa
open Go.RowKit

/-- What Run answers. -/
def RunIs (c : Int) (l ns : List Int) (w : World) (e : Ending) (w' : World) : Prop := ∃ v u, e = .returned (.tuple #[.agg #[.int .i64 c, v], u]) ∧ OwnI w' w.heap.size v (goL c l ns) ∧ OwnI w' w.heap.size u (goT c l ns) ∧ Below w.heap.size w w'

set_option maxRecDepth 100000 in
set_option maxHeartbeats 1000000 in
theorem rrun_no (c : Int) (p : Option Addr) (cap : Nat) (l : List Int) (vn : Value) (ns : List Int) (w : World) (h : SlI w (.slice p l.length cap) l) (hl : l.length ≤ 1000) (hm : mayB c l = false) :
    Calls Try.prog 14 #[.agg #[.int .i64 c, .slice p l.length cap], vn] w (RunIs c l ns w) := by
  have HS := Lib.hid h; clear h
  have HE : Hid (goL c l ns = l ∧ goT c l ns = []) := ⟨by unfold goL; rw [if_neg (by rw [hm]; exact Bool.false_ne_true)], by unfold goT; rw [if_neg (by rw [hm]; exact Bool.false_ne_true)]⟩
  unfold RunIs
  rw [HE.out.1, HE.out.2]
  have HQ := Lib.hid (fun W => queueOf_no c p cap l W hm)
  have HM := Lib.hid (fun W hW => same_any c (.slice p l.length cap) l W hW hl)
  clear hm HE hl
  obtain ⟨W0, hW0⟩ : ∃ W0, W0 = (w.alloc (.cells #[.int .i64 c, .slice p l.length cap] 24)).alloc (.cells #[.int .i64 0, .slice none 0 0] 24) := ⟨_, rfl⟩
  have HB : Hid (Below w.heap.size w W0) := by rw [hW0]; exact ((Below.refl w.heap.size w).alloc (Nat.le_refl _) _).alloc (by simp) _
  have M0 : Hid (W0.heap[w.heap.size]? = some (.cells #[.int .i64 c, .slice p l.length cap] 24 (0, 0))) := by rw [hW0]; exact heap_alloc2_old w _ _
  have N0 : Hid (W0.heap[w.heap.size + 1]? = some (.cells #[.int .i64 0, .slice none 0 0] 24 (0, 0))) := by rw [hW0]; exact heap_alloc2_new w _ _
  have HW := Lib.hid hW0
  clear hW0
  go_enter Try.func14, Try.ntmps14
  go_wp2_with fail
  rw [← HW.out]
  refine (HQ.out _).mono ?_
  rintro e w1 ⟨rfl, g1⟩
  have M1 := Lib.hid (blk_keep g1 M0.out)
  have N1 := Lib.hid (blk_keep g1 N0.out)
  have B1 := Lib.hid (belowT HB.out g1)
  obtain ⟨x0, x1, _, _, xl⟩ := cells2 M1.out
  clear g1 M0 N0
  go_wp2_with fail
  have G2 : Hid (Below w1.heap.size w1 (w1.alloc (.cells zq 44))) := (Below.refl _ _).alloc (Nat.le_refl _) _
  refine (HM.out _ (slI_keep (belowT B1.out G2.out) HS.out)).mono ?_
  rintro e w3 ⟨v3, rfl, ho3, g3⟩
  have B3 := Lib.hid (belowT (belowT B1.out G2.out) g3)
  have N3 := Lib.hid (blk_keep g3 (blk_keep G2.out N1.out))
  obtain ⟨z0, z1, q0, q1, zl⟩ := cells2 N3.out
  have HO3 := Lib.hid ho3
  obtain ⟨p3, cap3, rfl⟩ := ownI_shape ho3
  have HZ := Lib.hid (cells2 N1.out).2.2.2.2
  clear ho3 g3
  go_wp2_with fail
  have hz : w.heap.size + 1 < (w1.alloc (.cells zq 44)).heap.size := by have := HZ.out; simp; omega
  exact bodyPost_ret (results_aggI2 Try.isAgg24 Try.sizeOf24 _ 4 5 rfl _ _ _ _ _ rfl rfl (ring_put N3.out _ _)) rfl ⟨_, _, rfl, ownI_base (ownI_set (ownI_set HO3.out hz _) hz _) (by omega), ownI_nil _ _, (B3.out.setCell (by show w.heap.size ≤ w.heap.size + 1; omega) _).setCell (by show w.heap.size ≤ w.heap.size + 1; omega) _⟩

theorem grown_own {w w' : World} {base b : Nat} {v : Value} {l : List Int} (h : OwnI w base v l) (g : w.grownBy w' (some b)) (hb : b < base) : OwnI w' base v l :=
  ownI_block h fun k hk e => g.block k hk (fun e2 => by injection e2 with e2; have := (World.ownsRow.lt h k e).1; omega)

set_option maxRecDepth 100000 in
set_option maxHeartbeats 2000000 in
theorem rrun_yes (c : Nat) (p : Option Addr) (cap : Nat) (l : List Int) (q : Option Addr) (ncap : Nat) (ns : List Int) (w : World) (h : SlI w (.slice p l.length cap) l) (hn : SlI w (.slice q ns.length ncap) ns) (hnl : ns.length ≤ 1000) (h8 : c ≤ 8) (hc : l.length ≤ c) :
    Calls Try.prog 14 #[.agg #[.int .i64 (c : Int), .slice p l.length cap], .slice q ns.length ncap] w (RunIs (c : Int) l ns w) := by
  have HS := Lib.hid h
  have HN := Lib.hid hn
  have HE : Hid (goL (c : Int) l ns = runL (c : Int) l ns ∧ goT (c : Int) l ns = toldL (c : Int) l ns) := by
    have e : mayB (c : Int) l = true := by rw [mayB_iff]; omega
    exact ⟨by unfold goL; rw [if_pos e], by unfold goT; rw [if_pos e]⟩
  unfold RunIs
  rw [HE.out.1, HE.out.2]
  have HQ := Lib.hid (fun W hW => queueOf_yes c p cap l W hW hc h8)
  have H8 : Hid (l.length ≤ c ∧ c ≤ 8) := ⟨hc, h8⟩
  have hmk := fun W => make_ints ns.length (by omega) W
  have HNL := Lib.hid hnl
  clear HE h hn h8 hc hnl
  obtain ⟨W0, hW0⟩ : ∃ W0, W0 = (w.alloc (.cells #[.int .i64 (c : Int), .slice p l.length cap] 24)).alloc (.cells #[.int .i64 0, .slice none 0 0] 24) := ⟨_, rfl⟩
  have HB : Hid (Below w.heap.size w W0) := by rw [hW0]; exact ((Below.refl w.heap.size w).alloc (Nat.le_refl _) _).alloc (by simp) _
  have N0 : Hid (W0.heap[w.heap.size + 1]? = some (.cells #[.int .i64 0, .slice none 0 0] 24 (0, 0))) := by rw [hW0]; exact heap_alloc2_new w _ _
  have HW := Lib.hid hW0
  clear hW0
  go_enter Try.func14, Try.ntmps14
  go_wp2_with fail
  rw [← HW.out]
  refine (HQ.out _ (slI_keep HB.out HS.out)).mono ?_
  rintro e w1 ⟨pl, rfl, hp8, hpl, g1⟩
  have N1 := Lib.hid (blk_keep g1 N0.out)
  have B1 := Lib.hid (belowT HB.out g1)
  have qs := qc_size hp8 0 l.length c
  have qk := qc_ones (f := 0) (n := l.length) (c := c) hp8
  have Q2 := Lib.hid (que_new (w := w1) hp8 hpl H8.out.1 H8.out.2)
  have HZ := Lib.hid (cells2 N1.out).2.2.2.2
  clear g1 N0 hp8 hpl
  generalize qc pl 0 l.length c = Q at *
  go_wp2_with fail
  clear hmk qs qk
  have O0 : Hid (OwnI ((w1.alloc (.cells Q 44)).alloc (.cells (madeI ns.length) 3)) (w1.heap.size + 1) (.slice (some ⟨w1.heap.size + 1, 0, none⟩) 0 ns.length) []) := ownI_made _ ns.length (by have := HNL.out; omega) _ (by simp)
  have D0 : Hid (Below w1.heap.size w1 ((w1.alloc (.cells Q 44)).alloc (.cells (madeI ns.length) 3))) := ((Below.refl w1.heap.size w1).alloc (Nat.le_refl _) _).alloc (by simp) _
  have Q3 : Hid (Que ((w1.alloc (.cells Q 44)).alloc (.cells (madeI ns.length) 3)) w1.heap.size l c) := Q2.out.keep ((Below.refl _ _).alloc (Nat.le_refl _) _)
  go_loopw [8, 25] (fun v1 i wr => ∃ j : Nat, j ≤ ns.length ∧ i = .int .i64 j ∧ OwnI wr (w1.heap.size + 1) v1 (toldL (c : Int) l (ns.take j)) ∧ Que wr w1.heap.size (runL (c : Int) l (ns.take j)) c ∧ Below w1.heap.size w1 wr) (fun _ i _ => ns.length - (intOf i).toNat)
  case atStart => exact ⟨0, Nat.zero_le _, rfl, by simpa [toldL] using O0.out, by simpa [runL] using Q3.out, D0.out⟩
  case round =>
    obtain ⟨j, hj, rfl, ho, hq, hb⟩ := hrel
    have HO := Lib.hid ho
    have HQ := Lib.hid hq
    have HD := Lib.hid hb
    have HLT := Lib.hid hq.lt
    clear ho hq hb O0 D0 Q3
    by_cases hlj : j < ns.length
    · obtain ⟨b, off, ncap', e1, _, hlt, hx⟩ := slI_ne HN.out (by omega)
      injection e1 with e2 _ e3
      subst e2 e3
      have cj : wr.cell? ⟨b, off + j, none⟩ = some (.int .i64 (it ns j)) := ((belowT B1.out HD.out).cell (p := ⟨b, off + j, none⟩) hlt).trans (hx j hlj)
      have i0 : (0 : Int) ≤ (j : Int) := by omega
      have i1 : (j : Int) < (ns.length : Int) := by omega
      have u1 : (j : Int) + 1 < 10000 := by have := HNL.out; omega
      have HT : Hid (toldL (c : Int) l (ns.take (j + 1)) = toldL (c : Int) l (ns.take j) ++ [toldX (c : Int) (runL (c : Int) l (ns.take j)) (it ns j)]) := by
        show _ = _
        rw [take_snocI ns j hlj, toldL_snoc]
      have HR : Hid (runL (c : Int) l (ns.take (j + 1)) = stepL (c : Int) (runL (c : Int) l (ns.take j)) (it ns j)) := by
        show _ = _
        rw [take_snocI ns j hlj, runL_snoc]
      have HL : Hid ((toldL (c : Int) l (ns.take j)).length + 1 ≤ 1000000) := by
        show _ ≤ _
        rw [toldL_length, List.length_take]; have := HNL.out; omega
      have HC := Lib.hid (step_any w1.heap.size _ c (it ns j) wr HQ.out)
      generalize toldX (c : Int) (runL (c : Int) l (ns.take j)) (it ns j) = y at *
      go_wp2_with fail
      refine HC.out.mono ?_
      rintro e w2 ⟨rfl, g2, q2⟩
      have HO2 := Lib.hid (grown_own HO.out g2 (Nat.lt_succ_self _))
      have HZ2 : Hid (w1.heap.size + 1 ≤ w2.heap.size) := by have := g2.size; have := HLT.out; show _ ≤ _; omega
      have HQ2 := Lib.hid q2
      have HG2 := Lib.hid (grown_below HD.out g2 (Nat.le_refl _) (by have := HLT.out; omega))
      clear g2 q2
      go_wp2_with (at_builtin; refine wpList_append_ints _ rfl (.tmp 29) (.tmp 32) rfl (w1.heap.size + 1) _ _ rfl (ownI_alloc HO2.out _) _ [y] rfl (slI_lit _ [y] _ _ _ rfl rfl) HL.out (by have := HZ2.out; simp; omega) ?_; intro v3 w3 ho3 hg3)
      have HO3 := Lib.hid ho3
      have HG3 := Lib.hid (GrI.alloc hg3)
      clear ho3 hg3
      go_roundw
      case rel =>
        refine ⟨j + 1, by omega, by go_num, by rw [HT.out]; exact HO3.out, ?_, HG2.out.trans ((HG3.out.own HO2.out HZ2.out).mono (Nat.le_succ _))⟩
        rw [HR.out]
        exact HQ2.out.block ((HG3.out.own HO2.out HZ2.out).block _ (Nat.lt_succ_self _))
      case measure => simp [intOf]; omega
    · obtain rfl : j = ns.length := by omega
      have HO' : Hid (OwnI wr (w1.heap.size + 1) u8 (toldL (c : Int) l ns)) := by have := HO.out; rwa [List.take_length] at this
      have HQ' : Hid (Que wr w1.heap.size (runL (c : Int) l ns) c) := by have := HQ.out; rwa [List.take_length] at this
      clear HO HQ
      obtain ⟨Q4, s4, b4, c4⟩ := ringOf_que HQ'.out
      have l4 := ldA_block b4 s4
      have HC4 := Lib.hid c4
      clear b4 c4
      go_wp2_with fail
      refine (HC4.out _).mono ?_
      rintro e w3 ⟨v3, rfl, ho3, g3⟩
      have B3 := Lib.hid (belowT (belowT B1.out HD.out) g3)
      have N3 := Lib.hid (blk_keep g3 (blk_keep HD.out N1.out))
      obtain ⟨z0, z1, q0, q1, zl⟩ := cells2 N3.out
      have HO3 := Lib.hid ho3
      have HU3 := Lib.hid (ownI_keep g3 HO'.out)
      obtain ⟨p3, cap3, rfl⟩ := ownI_shape ho3
      clear ho3 g3
      go_wp2_with fail
      have hz : w.heap.size + 1 < wr.heap.size := by have := HZ.out; have := HLT.out; omega
      have hz1 : w.heap.size + 1 < w1.heap.size + 1 := by have := HZ.out; omega
      exact bodyPost_ret (results_aggI2 Try.isAgg24 Try.sizeOf24 _ 4 5 rfl _ _ _ _ _ rfl rfl (ring_put N3.out _ _)) rfl ⟨_, _, rfl, ownI_base (ownI_set (ownI_set HO3.out hz _) hz _) (by omega), ownI_base (ownI_set (ownI_set HU3.out hz1 _) hz1 _) (by omega), (B3.out.setCell (by show w.heap.size ≤ w.heap.size + 1; omega) _).setCell (by show w.heap.size ≤ w.heap.size + 1; omega) _⟩
/-- Run of any ring. -/
theorem rrun_any (c : Int) (v : Value) (l : List Int) (vn : Value) (ns : List Int) (w : World) (h : SlI w v l) (hn : SlI w vn ns) (hl : l.length ≤ 1000) (hnl : ns.length ≤ 1000) :
    Calls Try.prog 14 #[.agg #[.int .i64 c, v], vn] w (RunIs c l ns w) := by
  have hs := h
  have hns := hn
  obtain ⟨p, cap, rfl, _⟩ := slI_shape h
  obtain ⟨q, ncap, rfl, _⟩ := slI_shape hn
  cases hm : mayB c l with
  | false => exact rrun_no c p cap l _ ns w hs hl hm
  | true =>
    rw [mayB_iff] at hm
    obtain ⟨n, rfl⟩ := Int.eq_ofNat_of_zero_le hm.1
    exact rrun_yes n p cap l q ncap ns w hs hns hnl (by omega) (by omega)
end Go.Proofs.Ytmcnpefnebehfaa
