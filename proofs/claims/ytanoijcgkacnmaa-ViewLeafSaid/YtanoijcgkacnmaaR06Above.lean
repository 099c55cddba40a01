/-
  The document's trees: who is above whom, walked.
-/
import Derived.Test.YtanoijcgkacnmaaR06Is
namespace Go.Proofs.Ytanoijcgkacnmaa
open Go.RowKit

set_option maxRecDepth 100000 in
set_option maxHeartbeats 4000000 in
theorem refAbove (s : SlV) (l : List Nd) (i k : Int) (w : World) (h : SlE Ene w (sv s) l) (hn : l.length ≤ 1000) :
    Calls Try.prog 23 #[.agg (tr ⟨s⟩), .int .i64 i, .int .i64 k] w fun e w' => e = .returned (.bool (aboveZ l i k)) ∧ Below w.heap.size w w' := by
  have HI := Lib.hid (fun W (g : Below w.heap.size w W) => refIs s l i W (slE_keep g h) hn)
  have HK := Lib.hid (fun W (g : Below w.heap.size w W) => refIs s l k W (slE_keep g h) hn)
  have HL := Lib.hid (sv_lenN h)
  obtain ⟨p, n, cp⟩ := s
  dsimp only at HL
  obtain ⟨x, hx⟩ : ∃ x, x = aboveZ l i k := ⟨_, rfl⟩
  rw [← hx]
  have HX := Lib.hid hx
  obtain ⟨a, ha⟩ : ∃ a, a = isT l i := ⟨_, rfl⟩
  obtain ⟨b, hb⟩ : ∃ b, b = isT l k := ⟨_, rfl⟩
  rw [← ha] at HI
  rw [← hb] at HK
  obtain ⟨W0, hW0⟩ : ∃ W0, W0 = w.alloc (.cells (tr ⟨⟨p, n, cp⟩⟩) 24) := ⟨_, rfl⟩
  have HB : Hid (Below w.heap.size w W0) := by rw [hW0]; exact below1
  have M0 : Hid (W0.heap[w.heap.size]? = some (.cells (tr ⟨⟨p, n, cp⟩⟩) 24 (0, 0))) := by rw [hW0]; exact heap_alloc_last w _
  have HS := Lib.hid h
  have HW := Lib.hid hW0
  have HXF : Hid (a = false → x = false) := fun e => by rw [HX.out]; unfold aboveZ; rw [← ha, e]; rfl
  have HXG : Hid (b = false → x = false) := fun e => by rw [HX.out]; unfold aboveZ; rw [← hb, e, Bool.and_false]; rfl
  have HA := Lib.hid ha
  have HBB := Lib.hid hb
  clear hW0 h hn hx ha hb
  go_enter Try.func23, Try.ntmps23
  go_wp2_with fail
  rw [← HW.out]
  refine (HI.out W0 HB.out).mono ?_
  rintro e w1 ⟨rfl, g1⟩
  have G1 := Lib.hid g1
  obtain ⟨z0, z1, zl⟩ := tr_cells (blk_keep g1 M0.out)
  dsimp only at z0
  rw [sv_mk] at z0
  clear g1
  go_wp2_with fail
  refine (HK.out w1 (belowT HB.out G1.out)).mono ?_
  rintro e w2 ⟨rfl, g2⟩
  have G2 := Lib.hid (belowT (belowT HB.out G1.out) g2)
  have G3 := Lib.hid (belowT G1.out g2)
  clear z0 z1 zl g2
  obtain ⟨z0, z1, zl⟩ := tr_cells (blk_keep G3.out M0.out)
  dsimp only at z0
  rw [sv_mk] at z0
  cases a
  · have hX : Hid (x = false) := HXF.out rfl
    go_wp2_with fail
    go_ret
    exact ⟨by rw [hX.out]; first | done | rfl, G2.out⟩
  · cases b
    · have hX : Hid (x = false) := HXG.out rfl
      go_wp2_with fail
      go_ret
      exact ⟨by rw [hX.out]; first | done | rfl, G2.out⟩
    · obtain ⟨hm, hi0, hi1⟩ := isT_iff.1 HA.out.symm
      obtain ⟨_, hk0, hk1⟩ := isT_iff.1 HBB.out.symm
      obtain ⟨i', rfl⟩ : ∃ i' : Nat, i = i' := ⟨i.toNat, by omega⟩
      obtain ⟨k', rfl⟩ : ∃ k' : Nat, k = k' := ⟨k.toNat, by omega⟩
      have HX' : Hid (x = aboveT l i' k') := by show x = _; rw [HX.out, aboveZ_nat hm (by omega) (by omega)]
      have HM := Lib.hid hm
      have HI1 : Hid (i' < n) := by show i' < n; have := HL.out; omega
      have HK1 : Hid (k' < n) := by show k' < n; have := HL.out; omega
      clear hi0 hi1 hk0 hk1 HXF HXG HX HA HBB HI HK
      obtain ⟨b1, o1, rfl, q1, x1⟩ := slE_ptr HS.out hm.pos
      have X1 := Lib.hid (keepR G2.out x1)
      clear hm x1
      have u0 : (i' : Int) < 10000 := by have := HI1.out; have := HM.out.le; have := HL.out; omega
      have u00 : (0 : Int) ≤ (i' : Int) := by omega
      go_wp2_with fail
      go_loop [2] (fun v => ∃ m : Nat, m < n ∧ v = .int .i64 (m : Int) ∧ aboveT l i' m = aboveT l i' k') (fun v => (intOf v).toNat)
      case atStart => exact ⟨k', HK1.out, rfl, rfl⟩
      case round =>
        obtain ⟨m, hmn, rfl, hab⟩ := hrel
        have HAB := Lib.hid hab
        have HMN := Lib.hid hmn
        clear hab hmn
        have u1 : (m : Int) < (n : Int) := by have := HMN.out; omega
        have u2 : (0 : Int) ≤ (m : Int) := by omega
        by_cases hlt : i' < m
        · have t1 : decide ((i' : Int) < (m : Int)) = true := by rw [decide_eq_true_iff]; omega
          obtain ⟨hp, hu, _⟩ := HM.out.par (k := m) (by omega) (by have := HL.out; have := HMN.out; omega)
          have y1 := nds_par X1.out (i := m) (by have := HL.out; have := HMN.out; omega)
          rw [hp] at y1
          have HU := Lib.hid hu
          have HLT := Lib.hid hlt
          clear hp hu hlt
          go_wp2_with fail
          go_round
          case rel => exact ⟨up l m, by have := HU.out; have := HMN.out; omega, rfl, by
            rw [← HAB.out, above_up HM.out i' (k := m) (by have := HLT.out; omega) (by have := HL.out; have := HMN.out; omega), if_pos HLT.out]⟩
          case measure => have := HU.out; simp [intOf]; omega
        · have t1 : decide ((i' : Int) < (m : Int)) = false := by rw [decide_eq_false_iff_not]; omega
          have t1' : decide (i' < m) = false := decide_eq_false hlt
          have HR : Hid (x = ((m : Int) == (i' : Int))) := by
            show x = _
            rw [HX'.out, ← HAB.out, above_stop HM.out (by have := HL.out; have := HMN.out; omega) hlt, Bool.eq_iff_iff, decide_eq_true_iff, beq_iff_eq]
            omega
          clear hlt
          go_wp2_with fail
          go_ret
          exact ⟨by rw [HR.out]; first | done | rfl, G2.out⟩
end Go.Proofs.Ytanoijcgkacnmaa
