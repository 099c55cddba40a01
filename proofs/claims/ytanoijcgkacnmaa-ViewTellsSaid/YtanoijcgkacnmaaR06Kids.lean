/-
  The document's trees: children, walked.
-/
import Derived.Test.YtanoijcgkacnmaaR06Is
import Derived.Test.YtanoijcgkacnmaaGJ
namespace Go.Proofs.Ytanoijcgkacnmaa
open Go.RowKit

set_option maxRecDepth 100000 in
set_option maxHeartbeats 4000000 in
theorem refKids (s : SlV) (l : List Nd) (i : Int) (w : World) (h : SlE Ene w (sv s) l) (hn : l.length ≤ 1000) :
    Calls Try.prog 24 #[.agg (tr ⟨s⟩), .int .i64 i] w (IntsIs (kidsI l i) w) := by
  have HP := Lib.hid (fun W (g : Below w.heap.size w W) => refIs s l i W (slE_keep g h) hn)
  have HL := Lib.hid (sv_lenN h)
  obtain ⟨p, n, cp⟩ := s
  dsimp only at HL
  obtain ⟨a, ha⟩ : ∃ a, a = isT l i := ⟨_, rfl⟩
  rw [← ha] at HP
  obtain ⟨W0, hW0⟩ : ∃ W0, W0 = w.alloc (.cells (tr ⟨⟨p, n, cp⟩⟩) 24) := ⟨_, rfl⟩
  have HB : Hid (Below w.heap.size w W0) := by rw [hW0]; exact below1
  have M0 : Hid (W0.heap[w.heap.size]? = some (.cells (tr ⟨⟨p, n, cp⟩⟩) 24 (0, 0))) := by rw [hW0]; exact heap_alloc_last w _
  have HS := Lib.hid h
  have HW := Lib.hid hW0
  have HA := Lib.hid ha
  clear hW0 h ha hn
  cases a
  · have HE : Hid (kidsI l i = []) := kidsI_not HA.out.symm
    go_enter Try.func24, Try.ntmps24
    go_wp2_with fail
    rw [← HW.out]
    refine (HP.out W0 HB.out).mono ?_
    rintro e w1 ⟨rfl, g1⟩
    have G1 := Lib.hid (belowT HB.out g1)
    obtain ⟨z0, z1, zl⟩ := tr_cells (blk_keep g1 M0.out)
    dsimp only at z0
    rw [sv_mk] at z0
    clear g1
    go_wp2_with fail
    refine wp_loop_rounds 1 ?_
    rw [rounds_succ]
    by_cases hz : 0 < n
    · have t0 : decide ((0 : Int) < (n : Int)) = true := by rw [decide_eq_true_iff]; omega
      have t0' : decide (0 < n) = true := decide_eq_true hz
      clear hz
      go_wp2_with fail
      go_ret
      exact ⟨_, rfl, by rw [HE.out]; exact ownE_nil _ _ _, G1.out⟩
    · obtain rfl : n = 0 := by omega
      clear hz
      go_wp2_with fail
      go_ret
      exact ⟨_, rfl, by rw [HE.out]; exact ownE_nil _ _ _, G1.out⟩
  · obtain ⟨hm, hi0, hi1⟩ := isT_iff.1 HA.out.symm
    obtain ⟨i', rfl⟩ : ∃ i' : Nat, i = i' := ⟨i.toNat, by omega⟩
    have HE : Hid (kidsI l (i' : Int) = kidsUp l i' n) := by show _ = _; rw [kidsI_nat hm (by omega), HL.out]
    have HN : Hid (n ≤ 12) := by show n ≤ 12; have := hm.le; have := HL.out; omega
    obtain ⟨b1, o1, rfl, q1, x1⟩ := slE_ptr HS.out hm.pos
    clear hi0 hi1 HA hm
    go_enter Try.func24, Try.ntmps24
    go_wp2_with fail
    rw [← HW.out]
    refine (HP.out W0 HB.out).mono ?_
    rintro e w1 ⟨rfl, g1⟩
    have G1 := Lib.hid (belowT HB.out g1)
    have M1 := Lib.hid (blk_keep g1 M0.out)
    have X1 := Lib.hid (keepR G1.out x1)
    clear g1 x1 q1
    go_wp2_with fail
    go_loopw [5, 7] (fun v i wr => ∃ j : Nat, j ≤ n ∧ i = .int .i64 (j : Int) ∧ OwnE Eint wr w1.heap.size v (kidsUp l i' j) ∧ Below w1.heap.size w1 wr) (fun _ i _ => n - (intOf i).toNat)
    case atStart => exact ⟨0, Nat.zero_le _, rfl, ownE_nil _ _ _, Below.refl _ _⟩
    case round =>
      obtain ⟨j, hj, rfl, hown, hb⟩ := hrel
      have HO := Lib.hid hown
      have HBB := Lib.hid hb
      obtain ⟨z0, z1, zl⟩ := tr_cells (blk_keep hb M1.out)
      dsimp only at z0
      rw [sv_mk] at z0
      clear hown hb
      by_cases hlt : j < n
      · have i0 : (0 : Int) ≤ (j : Int) := by omega
        have i1 : (j : Int) < (n : Int) := by omega
        have u1 : (j : Int) + 1 < 10000 := by have := HN.out; omega
        have y1 := nds_par (keepR HBB.out X1.out) (i := j) (by have := HL.out; omega)
        obtain ⟨x, hx⟩ : ∃ x, x = (nd l j).parent := ⟨_, rfl⟩
        rw [← hx] at y1
        have HXx := Lib.hid hx
        clear hx
        by_cases he : x = (i' : Int)
        · have t1 : (x == (i' : Int)) = true := by simpa using he
          have HE2 : Hid (kidsUp l i' (j + 1) = kidsUp l i' j ++ [(j : Int)]) := kidsUp_yes (by rw [← HXx.out]; exact he)
          have HLn := Lib.hid (kidsUp_len l i' j)
          clear he
          go_wp2_with (at_builtin; refine wpList_append_E Kint _ rfl (.tmp 29) (.tmp 31) rfl w1.heap.size _ (kidsUp l i' j) rfl (ownE_alloc HO.out _) _ [(j : Int)] rfl (slE_lit _ [(j : Int)] 1 _ _ _ rfl (by simp) rfl) (by have := HLn.out; have := HN.out; simp; omega) (by have := HBB.out.size; simp; omega) ?_; intro v2 w2 ho2 hg2)
          go_roundw
          case rel => exact ⟨j + 1, by omega, by go_num, by rw [HE2.out]; exact ho2, (belowT HBB.out below1).trans (hg2.own (ownE_alloc HO.out _) (by have := HBB.out.size; simp; omega))⟩
          case measure => simp [intOf]; omega
        · have t1 : (x == (i' : Int)) = false := by simpa using he
          have HE2 : Hid (kidsUp l i' (j + 1) = kidsUp l i' j) := kidsUp_no (by rw [← HXx.out]; exact he)
          clear he
          go_wp2_with fail
          go_roundw
          case rel => exact ⟨j + 1, by omega, by go_num, by rw [HE2.out]; exact HO.out, HBB.out⟩
          case measure => simp [intOf]; omega
      · obtain rfl : j = n := by omega
        clear hlt
        go_wp2_with fail
        go_ret
        exact ⟨_, rfl, by rw [HE.out]; exact ownE_base HO.out G1.out.size, belowT G1.out HBB.out⟩
end Go.Proofs.Ytanoijcgkacnmaa
