/-
  The document's votes: Same, walked.
-/
import Derived.Test.YtfmbgpjpkahmnaaR12May
import Derived.Laws.Cover3
namespace Go.Proofs.Ytfmbgpjpkahmnaa
open Go.RowKit

theorem vw_two {w W : World} {s s' : SlV} {v u : Vt} (hW : W = (w.alloc (.cells (vo ⟨s, v.out⟩) 25)).alloc (.cells (vo ⟨s', u.out⟩) 25)) (h : SlE Elt w (sv s) v.l) (h' : SlE Elt w (sv s') u.l) : Vw w W w.heap.size s v ∧ Vw w W (w.heap.size + 1) s' u := by
  obtain ⟨g, m, n, _⟩ := heap2 w _ _ _ _ W hW
  exact ⟨⟨m, slE_keep g h, g⟩, ⟨n, slE_keep g h', g⟩⟩

set_option maxRecDepth 100000 in
set_option maxHeartbeats 8000000 in
theorem ref12Same_n (p q : Option Addr) (n m cl ck : Nat) (v u : Vt) (w : World) (h : SlE Elt w (.slice p n cl) v.l) (h' : SlE Elt w (.slice q m ck) u.l) (hl : v.l.length = n) (hk : u.l.length = m) (hn : n ≤ 1000) :
    Calls Try.prog 12 #[.agg (vo ⟨⟨p, n, cl⟩, v.out⟩), .agg (vo ⟨⟨q, m, ck⟩, u.out⟩)] w fun e w' => e = .returned (.bool (decide (v = u))) ∧ Below w.heap.size w w' := by
  obtain ⟨W0, hW0⟩ : ∃ W0, W0 = (w.alloc (.cells (vo ⟨⟨p, n, cl⟩, v.out⟩) 25)).alloc (.cells (vo ⟨⟨q, m, ck⟩, u.out⟩) 25) := ⟨_, rfl⟩
  obtain ⟨a0, b0⟩ := vw_two hW0 h h'
  have A := Lib.hid a0
  have B := Lib.hid b0
  have HW := Lib.hid hW0
  have HL := Lib.hid hl
  have HK := Lib.hid hk
  have HN := Lib.hid hn
  obtain ⟨r, hr⟩ : ∃ r, r = decide (v = u) := ⟨_, rfl⟩
  rw [← hr]
  have HR := Lib.hid hr
  have z0 := a0.z0
  have z1 := b0.z0
  have z2 := a0.zo
  have z3 := b0.zo
  rw [sv_mk] at z0 z1
  by_cases hnm : n = m
  · subst hnm
    by_cases ho : v.out = u.out
    · have HO := Lib.hid ho
      rw [ho] at z2
      clear a0 b0 hW0 h h' hl hk hn hr ho
      go_enter Try.func12, Try.ntmps12
      go_upto_region 1 with fail
      rw [← HW.out]
      go_wp2_with fail
      clear z0 z1 z2 z3
      go_loopw [5] (fun i wr => ∃ j : Nat, j ≤ n ∧ i = .int .i64 j ∧ (∀ x, x < j → lat v.l x = lat u.l x) ∧ Vw w wr w.heap.size ⟨p, n, cl⟩ v ∧ Vw w wr (w.heap.size + 1) ⟨q, n, ck⟩ u) (fun i _ => n - (intOf i).toNat)
      case atStart => exact ⟨0, Nat.zero_le _, rfl, fun x hx => absurd hx (Nat.not_lt_zero _), A.out, B.out⟩
      case round =>
        obtain ⟨j, hj, rfl, hx, hA, hB⟩ := hrel
        have HX := Lib.hid hx
        replace A := Lib.hid hA
        replace B := Lib.hid hB
        clear hx hA hB
        have z0 := A.out.z0
        have z1 := B.out.z0
        rw [sv_mk] at z0 z1
        by_cases hlt : j < n
        · have i0 : (0 : Int) ≤ (j : Int) := by omega
          have i1 : (j : Int) < (n : Int) := by omega
          have u1 : (j : Int) + 1 < 10000 := by have := HN.out; omega
          obtain ⟨b1, o1, rfl, _, x1⟩ := lats_ptr A.out.s (by rw [HL.out]; omega)
          obtain ⟨b2, o2, rfl, _, x2⟩ := lats_ptr B.out.s (by rw [HK.out]; omega)
          have y1 := lats_ld x1 (i := j) (by rw [HL.out]; exact hlt)
          have y2 := lats_ld x2 (i := j) (by rw [HK.out]; exact hlt)
          clear x1 x2
          by_cases he : lat v.l j = lat u.l j
          · have HE := Lib.hid he
            rw [he] at y1
            clear he
            go_wp2_with fail
            go_quiet (fail)
            go_wp2_with fail
            go_roundw
            case rel => exact ⟨j + 1, by omega, by go_num, fun x hx => by
              rcases Nat.lt_succ_iff_lt_or_eq.1 hx with h | rfl
              · exact HX.out x h
              · exact HE.out, A.out.keep (belowD (Below.refl _ _) _), B.out.keep (belowD (Below.refl _ _) _)⟩
            case measure => simp [intOf]; omega
          · have hR : Hid (r = false) := by
              show r = false
              rw [HR.out, decide_eq_false_iff_not]
              intro e; exact he (by rw [e])
            have t1 : decide (lat v.l j = lat u.l j) = false := decide_eq_false he
            clear he
            go_wp2_with fail
            go_quiet (fail)
            go_wp2_with fail
            go_ret
            exact ⟨by rw [hR.out]; first | done | rfl, belowD A.out.g _⟩
        · obtain rfl : j = n := by omega
          have hR : Hid (r = true) := by
            show r = true
            rw [HR.out, decide_eq_true_iff]
            exact Vt.ext (lat_ext (by rw [HL.out, HK.out]) fun i hi => HX.out i (by have := HK.out; omega)) HO.out
          go_wp2_with fail
          go_ret
          exact ⟨by rw [hR.out]; first | done | rfl, A.out.g⟩
    · have hR : Hid (r = false) := by
        show r = false
        rw [hr, decide_eq_false_iff_not]
        intro e; exact ho (by rw [e])
      obtain ⟨a, ha⟩ : ∃ a, a = (v.out.toNat : Int) := ⟨_, rfl⟩
      obtain ⟨b, hb⟩ : ∃ b, b = (u.out.toNat : Int) := ⟨_, rfl⟩
      have t1 : (a != b) = true := by
        rw [bne_iff_ne, ha, hb]
        intro e; exact ho (UInt64.toNat_inj.1 (by omega))
      rw [← ha] at z2
      rw [← hb] at z3
      clear a0 b0 hW0 h h' hl hk hn hr ho ha hb
      go_enter Try.func12, Try.ntmps12
      go_upto_region 1 with fail
      rw [← HW.out]
      go_wp2_with fail
      go_ret
      exact ⟨by rw [hR.out]; first | done | rfl, A.out.g⟩
  · have hR : Hid (r = false) := by
      show r = false
      rw [hr, decide_eq_false_iff_not]
      intro e; exact hnm (by rw [← hl, ← hk, e])
    have t1 : ((n : Int) != (m : Int)) = true := by rw [bne_iff_ne]; omega
    clear a0 b0 hW0 h h' hl hk hn hr hnm z2 z3
    go_enter Try.func12, Try.ntmps12
    go_upto_region 1 with fail
    rw [← HW.out]
    go_wp2_with fail
    go_ret
    exact ⟨by rw [hR.out]; first | done | rfl, A.out.g⟩
theorem ref12Same (s s' : SlV) (v u : Vt) (w : World) (h : SlE Elt w (sv s) v.l) (h' : SlE Elt w (sv s') u.l) (hn : v.l.length ≤ 1000) :
    Calls Try.prog 12 #[.agg (vo ⟨s, v.out⟩), .agg (vo ⟨s', u.out⟩)] w fun e w' => e = .returned (.bool (decide (v = u))) ∧ Below w.heap.size w w' := by
  have hl := sv_lenT h
  have hk := sv_lenT h'
  obtain ⟨p, n, cp⟩ := s
  obtain ⟨q, m, ck⟩ := s'
  dsimp only at hl hk
  exact ref12Same_n p q n m cp ck v u w h h' hl hk (by omega)
theorem enters_ref12Same : ∀ args w, (callFunc 12 args).run Try.prog w = .ok (.enter 12 args) w := entersE Try.func12 (by kernel_rfl) (by kernel_rfl)
end Go.Proofs.Ytfmbgpjpkahmnaa
