/-
  The document's trees: the ancestor at a slot, walked.
-/
import Derived.Test.YtnmljjmaejmlfaaR06Is
namespace Go.Proofs.Ytnmljjmaejmlfaa
open Go.RowKit

set_option maxRecDepth 100000 in
set_option maxHeartbeats 4000000 in
theorem refAt (s : SlV) (l : List Nd) (i : Int) (q : UInt64) (w : World) (h : SlE Ene w (sv s) l) (hn : l.length ≤ 1000) :
    Calls Try.prog 18 #[.agg (tr ⟨s⟩), .int .i64 i, .int .u64 (q.toNat : Int)] w fun e w' => e = .returned (.int .i64 (atZ l i q.toNat)) ∧ Below w.heap.size w w' := by
  have HI := Lib.hid (fun W (g : Below w.heap.size w W) => refIs s l i W (slE_keep g h) hn)
  have HL := Lib.hid (sv_lenN h)
  obtain ⟨p, n, cp⟩ := s
  dsimp only at HL
  obtain ⟨x, hx⟩ : ∃ x, x = atZ l i q.toNat := ⟨_, rfl⟩
  rw [← hx]
  have HX := Lib.hid hx
  obtain ⟨a, ha⟩ : ∃ a, a = isT l i := ⟨_, rfl⟩
  rw [← ha] at HI
  obtain ⟨W0, hW0⟩ : ∃ W0, W0 = w.alloc (.cells (tr ⟨⟨p, n, cp⟩⟩) 24) := ⟨_, rfl⟩
  have HB : Hid (Below w.heap.size w W0) := by rw [hW0]; exact below1
  have M0 : Hid (W0.heap[w.heap.size]? = some (.cells (tr ⟨⟨p, n, cp⟩⟩) 24 (0, 0))) := by rw [hW0]; exact heap_alloc_last w _
  have HS := Lib.hid h
  have HW := Lib.hid hW0
  have HA := Lib.hid ha
  clear hW0 h hn hx ha
  go_enter Try.func18, Try.ntmps18
  go_wp2_with fail
  rw [← HW.out]
  refine (HI.out W0 HB.out).mono ?_
  rintro e w1 ⟨rfl, g1⟩
  have G1 := Lib.hid (belowT HB.out g1)
  obtain ⟨z0, z1, zl⟩ := tr_cells (blk_keep g1 M0.out)
  dsimp only at z0
  rw [sv_mk] at z0
  clear g1
  cases a
  · have hX : Hid (x = -1) := by show x = -1; rw [HX.out]; unfold atZ; rw [← HA.out]; rfl
    go_wp2_with fail
    go_ret
    exact ⟨by rw [hX.out]; first | done | rfl, G1.out⟩
  · obtain ⟨hm, hi0, hi1⟩ := isT_iff.1 HA.out.symm
    obtain ⟨i', rfl⟩ : ∃ i' : Nat, i = i' := ⟨i.toNat, by omega⟩
    have HX' : Hid (x = atT l i' q.toNat) := by show x = _; rw [HX.out, atZ_nat hm (by omega)]
    have HM := Lib.hid hm
    have HI1 : Hid (i' < n) := by show i' < n; have := HL.out; omega
    clear hi0 hi1 HX HA HI
    obtain ⟨b1, o1, rfl, q1, x1⟩ := slE_ptr HS.out hm.pos
    have X1 := Lib.hid (keepR G1.out x1)
    clear hm x1
    go_wp2_with fail
    go_loop [1] (fun v => ∃ m : Nat, m ≤ n ∧ v = .int .i64 ((m : Int) - 1) ∧ (if m = 0 then -1 else atT l (m - 1) q.toNat) = atT l i' q.toNat) (fun v => (intOf v + 1).toNat)
    case atStart => exact ⟨i' + 1, HI1.out, by rw [show ((i' + 1 : Nat) : Int) - 1 = (i' : Int) by omega], by rw [if_neg (Nat.succ_ne_zero _), Nat.add_sub_cancel]⟩
    case round =>
      obtain ⟨m, hmn, rfl, hab⟩ := hrel
      have HAB := Lib.hid hab
      have HMN := Lib.hid hmn
      clear hab hmn
      by_cases h0 : m = 0
      · subst h0
        have hX : Hid (x = -1) := by show x = -1; rw [HX'.out, ← HAB.out]; rfl
        rw [show (((0 : Nat) : Int) - 1) = -1 from rfl]
        go_wp2_with fail
        go_ret
        exact ⟨by rw [hX.out]; first | done | rfl, G1.out⟩
      · obtain ⟨k, rfl⟩ : ∃ k, m = k + 1 := ⟨m - 1, by omega⟩
        rw [show (((k + 1 : Nat) : Int) - 1) = (k : Int) by omega]
        have HAB' : Hid (atT l k q.toNat = atT l i' q.toNat) := by have := HAB.out; rw [if_neg h0, Nat.add_sub_cancel] at this; exact this
        have HKN : Hid (k < n) := HMN.out
        clear HAB HMN h0
        have u1 : (k : Int) < (n : Int) := by have := HKN.out; omega
        have u2 : (0 : Int) ≤ (k : Int) := by omega
        have y1 := nds_par X1.out (i := k) (by have := HL.out; have := HKN.out; omega)
        have y2 := nds_slot X1.out (i := k) (by have := HL.out; have := HKN.out; omega)
        by_cases hs : q.toNat < sl l k
        · have t1 : decide ((q.toNat : Int) < ((nd l k).slot.toNat : Int)) = true := by rw [decide_eq_true_iff]; unfold sl at hs; omega
          have t1' : decide (q.toNat < (nd l k).slot.toNat) = true := decide_eq_true hs
          by_cases hk : k = 0
          · subst hk
            rw [HM.out.first] at y1
            have HR : Hid (-1 = atT l i' q.toNat) := by show _ = _; rw [← HAB'.out, at_zero, if_neg (by omega)]
            clear hs
            go_wp2_with fail
            go_round
            case rel => exact ⟨0, Nat.zero_le _, rfl, HR.out⟩
            case measure => simp [intOf]
          · obtain ⟨hp, hu, _⟩ := HM.out.par (k := k) (by omega) (by have := HL.out; have := HKN.out; omega)
            rw [hp] at y1
            have HU := Lib.hid hu
            have HR : Hid (atT l (up l k) q.toNat = atT l i' q.toNat) := by show _ = _; rw [← HAB'.out, at_up HM.out q.toNat (k := k) (by omega) (by have := HL.out; have := HKN.out; omega), if_neg (by omega)]
            clear hs hk hp hu
            go_wp2_with fail
            go_round
            case rel => exact ⟨up l k + 1, by have := HU.out; have := HKN.out; omega, by rw [show ((up l k + 1 : Nat) : Int) - 1 = (up l k : Int) by omega], by rw [if_neg (Nat.succ_ne_zero _), Nat.add_sub_cancel]; exact HR.out⟩
            case measure => have := HU.out; simp [intOf]; omega
        · have t1 : decide ((q.toNat : Int) < ((nd l k).slot.toNat : Int)) = false := by rw [decide_eq_false_iff_not]; unfold sl at hs; omega
          have t1' : decide (q.toNat < (nd l k).slot.toNat) = false := decide_eq_false hs
          have hX : Hid (x = (k : Int)) := by show x = _; rw [HX'.out, ← HAB'.out, at_self HM.out (by have := HL.out; have := HKN.out; omega) (by omega)]
          clear hs
          go_wp2_with fail
          go_ret
          exact ⟨by rw [hX.out]; first | done | rfl, G1.out⟩
end Go.Proofs.Ytnmljjmaejmlfaa
