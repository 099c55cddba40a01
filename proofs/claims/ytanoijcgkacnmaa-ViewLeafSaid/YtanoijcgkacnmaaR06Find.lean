/-
  The document's trees: the place of a root, walked.
-/
import Derived.Test.YtanoijcgkacnmaaR06May
namespace Go.Proofs.Ytanoijcgkacnmaa
open Go.RowKit

set_option maxRecDepth 100000 in
set_option maxHeartbeats 4000000 in
theorem refFind (s : SlV) (l : List Nd) (r : Rt) (w : World) (h : SlE Ene w (sv s) l) (hn : l.length ≤ 1000) :
    Calls Try.prog 26 #[.agg (tr ⟨s⟩), .agg (rc r)] w fun e w' => e = .returned (.int .i64 (findT l r)) ∧ Below w.heap.size w w' := by
  have HI := Lib.hid (fun W (g : Below w.heap.size w W) => refMayT s l W (slE_keep g h) hn)
  have HL := Lib.hid (sv_lenN h)
  have HN := Lib.hid hn
  obtain ⟨p, n, cp⟩ := s
  dsimp only at HL
  obtain ⟨x, hx⟩ : ∃ x, x = findT l r := ⟨_, rfl⟩
  rw [← hx]
  have HX := Lib.hid hx
  obtain ⟨a, ha⟩ : ∃ a, a = decide (MayT l) := ⟨_, rfl⟩
  rw [← ha] at HI
  obtain ⟨W0, hW0⟩ : ∃ W0, W0 = (w.alloc (.cells (tr ⟨⟨p, n, cp⟩⟩) 24)).alloc (.cells (rc r) 27) := ⟨_, rfl⟩
  have HB : Hid (Below w.heap.size w W0) := by rw [hW0]; exact belowT below1 below1
  have M0 : Hid (W0.heap[w.heap.size]? = some (.cells (tr ⟨⟨p, n, cp⟩⟩) 24 (0, 0))) := by rw [hW0]; exact blk_keep below1 (heap_alloc_last w _)
  have R0 : Hid (ldA W0 (.pointer (some ⟨w.heap.size + 1, 0, none⟩)) 32 = some (rc r)) := by
    rw [hW0]
    have := ldA_block (heap_alloc_last (w.alloc (.cells (tr ⟨⟨p, n, cp⟩⟩) 24)) (.cells (rc r) 27 (0, 0))) (rc_size r)
    show ldA _ _ _ = _
    simpa using this
  have HS := Lib.hid h
  have HW := Lib.hid hW0
  have HA := Lib.hid ha
  clear hW0 h hn hx ha
  go_enter Try.func26, Try.ntmps26
  go_wp2_with fail
  rw [← HW.out]
  refine (HI.out W0 HB.out).mono ?_
  rintro e w1 ⟨rfl, g1⟩
  have GM := Lib.hid (blk_keep g1 M0.out)
  have GR := Lib.hid (keep g1 R0.out)
  have G1 := Lib.hid (belowT HB.out g1)
  clear g1 HB M0 R0 HI HW
  cases a
  · have hX : Hid (x = -1) := by
      show x = -1
      rw [HX.out, find_not]
      intro hm
      have := HA.out
      rw [decide_eq_true hm] at this
      cases this
    obtain ⟨z0, z1, zl⟩ := tr_cells GM.out
    dsimp only at z0
    rw [sv_mk] at z0
    go_wp2_with fail
    refine wp_loop_rounds 1 ?_
    rw [rounds_succ]
    by_cases hz : 0 < n
    · have t0 : decide ((0 : Int) < (n : Int)) = true := by rw [decide_eq_true_iff]; omega
      have t0' : decide (0 < n) = true := decide_eq_true hz
      clear hz
      go_wp2_with fail
      go_ret
      exact ⟨by rw [hX.out]; first | done | rfl, G1.out⟩
    · obtain rfl : n = 0 := by omega
      clear hz
      go_wp2_with fail
      go_ret
      exact ⟨by rw [hX.out]; first | done | rfl, G1.out⟩
  · have HM : Hid (MayT l) := Lib.hid (of_decide_eq_true HA.out.symm)
    obtain ⟨b1, o1, rfl, q1, x1⟩ := slE_ptr HS.out HM.out.pos
    have X1 := Lib.hid (keepR G1.out x1)
    clear x1 HA
    go_wp2_with fail
    go_loopw [6] (fun v wr => ∃ m : Nat, m ≤ n ∧ v = .int .i64 (m : Int) ∧ (∀ k, k < m → (nd l k).root ≠ r) ∧ Below w1.heap.size w1 wr) (fun v _ => n - (intOf v).toNat)
    case atStart => exact ⟨0, Nat.zero_le _, rfl, fun k hk => absurd hk (Nat.not_lt_zero _), Below.refl _ _⟩
    case round =>
      obtain ⟨m, hmn, rfl, hab, hb⟩ := hrel
      have HAB := Lib.hid hab
      have HMN := Lib.hid hmn
      have HBB := Lib.hid hb
      obtain ⟨z0, z1, zl⟩ := tr_cells (blk_keep hb GM.out)
      dsimp only at z0
      rw [sv_mk] at z0
      have zr := keep hb GR.out
      clear hab hmn hb
      by_cases hlt : m < n
      · have u1 : (m : Int) < (n : Int) := by omega
        have u2 : (0 : Int) ≤ (m : Int) := by omega
        have u3 : (m : Int) + 1 < 10000 := by have := HL.out; have := HN.out; omega
        have y1 := nds_root (keepR HBB.out X1.out) (i := m) (by have := HL.out; omega)
        by_cases he : (nd l m).root = r
        · rw [he] at y1
          have t3 := eqB_self r
          have hX : Hid (x = (m : Int)) := by
            show x = _
            rw [HX.out, ← he, find_at HM.out (by have := HL.out; omega)]
          clear he
          go_wp2_with fail
          go_quiet (fail)
          go_wp2_with fail
          go_ret
          exact ⟨by rw [hX.out]; first | done | rfl, belowT G1.out (belowD HBB.out _)⟩
        · have t3 : eqB (nd l m).root r = false := decide_eq_false he
          have HE := Lib.hid he
          clear he
          go_wp2_with fail
          go_quiet (fail)
          go_wp2_with fail
          go_roundw
          case rel => exact ⟨m + 1, by omega, by go_num, fun k hk => by
            rcases Nat.lt_succ_iff_lt_or_eq.1 hk with h | rfl
            · exact HAB.out k h
            · exact HE.out, belowD HBB.out _⟩
          case measure => simp [intOf]; omega
      · obtain rfl : m = n := by have := HMN.out; omega
        have hX : Hid (x = -1) := by
          show x = -1
          rw [HX.out]
          rcases find_spec HM.out r with ⟨i, hi, _, hr⟩ | ⟨e, _⟩
          · exact absurd hr (HAB.out i (by have := HL.out; omega))
          · exact e
        clear hlt
        go_wp2_with fail
        go_ret
        exact ⟨by rw [hX.out]; first | done | rfl, belowT G1.out HBB.out⟩
end Go.Proofs.Ytanoijcgkacnmaa
