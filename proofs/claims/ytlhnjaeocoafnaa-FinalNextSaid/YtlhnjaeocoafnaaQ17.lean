/-
  The document's May of trees, walked. (its great theorem written by wip/gen/treeMay.py)
  The document's trees: the place of a root, walked.
-/
import Derived.Test.YtlhnjaeocoafnaaQ16
namespace Go.Proofs.Ytlhnjaeocoafnaa
open Go.RowKit
set_option maxRecDepth 100000

set_option maxRecDepth 100000 in
set_option maxHeartbeats 4000000 in
theorem refMay_n (p : Option Addr) (n cp : Nat) (l : List Nd) (w : World) (h : SlE Ene w (.slice p n cp) l) (hl : l.length = n) (hn : n ≤ 1000) :
    Calls Try.prog 40 #[.agg (tr ⟨⟨p, n, cp⟩⟩)] w fun e w' => e = .returned (.bool (decide (MayT l))) ∧ Below w.heap.size w w' := by
  have HL := Lib.hid hl
  have HN := Lib.hid hn
  obtain ⟨r, hr⟩ : ∃ r, r = decide (MayT l) := ⟨_, rfl⟩
  rw [← hr]
  have HR := Lib.hid hr
  obtain ⟨W0, hW0⟩ : ∃ W0, W0 = w.alloc (.cells (tr ⟨⟨p, n, cp⟩⟩) 24) := ⟨_, rfl⟩
  have HB : Hid (Below w.heap.size w W0) := by rw [hW0]; exact below1
  have M0 : Hid (W0.heap[w.heap.size]? = some (.cells (tr ⟨⟨p, n, cp⟩⟩) 24 (0, 0))) := by rw [hW0]; exact heap_alloc_last w _
  have HS := Lib.hid (slE_keep HB.out h)
  have HW := Lib.hid hW0
  have HNo : Hid (∀ i, i < n → ¬ NodeOk l i → r = false) := by
    intro i hi hno
    rw [hr, decide_eq_false_iff_not]
    exact fun hm => hno (hm.2.2 i (by omega))
  clear hW0 h hl hn hr
  go_enter Try.func40, Try.ntmps40
  go_wp2_with fail
  rw [← HW.out]
  go_loopw [3] (fun i wr => ∃ j : Nat, j ≤ n ∧ i = .int .i64 (j : Int) ∧ (∀ k, k < j → NodeOk l k) ∧ Below W0.heap.size W0 wr) (fun i _ => n - (intOf i).toNat)
  case atStart => exact ⟨0, Nat.zero_le _, rfl, fun k hk => absurd hk (Nat.not_lt_zero _), Below.refl _ _⟩
  case round =>
    obtain ⟨j, hj, rfl, hx, hb⟩ := hrel
    have HX := Lib.hid hx
    have HBB := Lib.hid hb
    obtain ⟨z0, z1, zl⟩ := tr_cells (blk_keep hb M0.out)
    dsimp only at z0
    rw [sv_mk] at z0
    clear hx hb
    obtain ⟨wo, rfl⟩ : ∃ wo : World, wo = wr := ⟨_, rfl⟩
    by_cases hlt : j < n
    · have i0 : (0 : Int) ≤ (j : Int) := by omega
      have i1 : (j : Int) < (n : Int) := by omega
      have u1 : (j : Int) + 1 < 10000 := by have := HN.out; omega
      obtain ⟨b1, o1, c1, e1, _, q1, x1⟩ := slE_ne HS.out (by have := HL.out; omega)
      injection e1 with e2 e4 e3
      clear e4
      subst e2 e3
      have X1 := Lib.hid x1
      have Q1 := Lib.hid q1
      have q1' : b1 < wo.heap.size := Nat.lt_of_lt_of_le q1 HBB.out.size
      have y1 := keep HBB.out (nds_ld x1 (i := j) (by have := HL.out; omega))
      have HXn : Hid (∃ x, x = nd l j) := ⟨_, rfl⟩
      clear x1 q1
      obtain ⟨x, hx⟩ := HXn.out
      rw [← hx] at y1
      have HXx := Lib.hid hx
      clear HXn hx
      by_cases h1 : 1099511627776 < x.slot.toNat
      · have t1 : decide ((1099511627776 : Int) < (x.slot.toNat : Int)) = true := by rw [decide_eq_true_iff]; omega
        have t1' : decide (1099511627776 < x.slot.toNat) = true := decide_eq_true h1
        have hR : Hid (r = false) := HNo.out j hlt (fun ho => by have := ho.1; unfold sl at this; rw [← HXx.out] at this; omega)
        clear h1
        go_wp2_with fail
        go_ret
        exact ⟨by rw [hR.out]; first | done | rfl, belowT HB.out (belowT HBB.out below1)⟩
      · have t1 : decide ((1099511627776 : Int) < (x.slot.toNat : Int)) = false := by rw [decide_eq_false_iff_not]; omega
        have t1' : decide (1099511627776 < x.slot.toNat) = false := decide_eq_false h1
        have H1 := Lib.hid h1
        clear h1
        obtain ⟨W1, hW1⟩ : ∃ W1, W1 = wo.alloc (.cells (ne x) 73) := ⟨_, rfl⟩
        have HW1 := Lib.hid hW1
        have B1 : Hid (Below W0.heap.size W0 W1) := by rw [hW1]; exact belowT HBB.out below1
        have N1 : Hid (W1.heap[wo.heap.size]? = some (.cells (ne x) 73 (0, 0))) := by rw [hW1]; exact heap_alloc_last wo _
        clear hW1
        by_cases h0 : j = 0
        · subst h0
          by_cases hp : x.parent = -1
          · have t2 : (x.parent == -1) = true := by simpa using hp
            have HP := Lib.hid hp
            have HOk : Hid ((∀ k, k < 0 → (nd l k).root ≠ x.root) → NodeOk l 0) := fun hk => by
              unfold NodeOk sl
              rw [← HXx.out]
              exact ⟨by have := H1.out; omega, fun _ => HP.out, fun h => absurd h (Nat.lt_irrefl _), hk⟩
            clear hp
            rw [Nat.zero_mul, Nat.add_zero] at y1
            go_wp2_with fail
            go_quiet (fail)
            go_wp2_with fail
            rw [← HW1.out]
            go_loopw [5] (fun i wr => ∃ k : Nat, k ≤ 0 ∧ i = .int .i64 (k : Int) ∧ (∀ m, m < k → (nd l m).root ≠ x.root) ∧ Below W1.heap.size W1 wr) (fun i _ => 0 - (intOf i).toNat)
            case atStart => exact ⟨0, Nat.zero_le _, rfl, fun m hm => absurd hm (Nat.not_lt_zero _), belowD (Below.refl _ _) _⟩
            case round =>
              obtain ⟨k, hk, rfl, hx2, hb2⟩ := hrel
              have HX2 := Lib.hid hx2
              have HB2 := Lib.hid hb2
              obtain ⟨z0, z1, zl⟩ := tr_cells (blk_keep (belowT B1.out hb2) M0.out)
              dsimp only at z0
              rw [sv_mk] at z0
              obtain ⟨n0, _, _, _, _, nl⟩ := ne_cells (blk_keep hb2 N1.out)
              clear hx2 hb2
              by_cases hlt2 : k < 0
              · exact absurd hlt2 (Nat.not_lt_zero _)
              · obtain rfl : 0 = k := by omega
                go_wp2_with fail
                go_roundw
                case rel => exact ⟨0 + 1, by omega, by go_num, fun m hm => by
                  rcases Nat.lt_succ_iff_lt_or_eq.1 hm with h | rfl
                  · exact HX.out m h
                  · exact HOk.out HX2.out, belowT B1.out HB2.out⟩
                case measure => simp [intOf]; omega
          · have t2 : (x.parent != -1) = true := by simpa using hp
            have hR : Hid (r = false) := HNo.out 0 hlt (fun ho => by have := ho.2.1 rfl; rw [← HXx.out] at this; exact hp this)
            clear hp
            rw [Nat.zero_mul, Nat.add_zero] at y1
            go_wp2_with fail
            go_ret
            exact ⟨by rw [hR.out]; first | done | rfl, belowT HB.out (belowT HBB.out below1)⟩
        · have HJ0 : Hid (0 < j) := Nat.pos_of_ne_zero h0
          have c0 : ((j : Int) == 0) = false := by simpa using h0
          have c0' : decide ((j : Int) = 0) = false := by simpa using h0
          have c0'' : decide (j = 0) = false := by simpa using h0
          have c1 : decide ((0 : Int) < (j : Int)) = true := by rw [decide_eq_true_iff]; omega
          have c1' : decide (0 < j) = true := by rw [decide_eq_true_iff]; omega
          clear h0
          by_cases hp : x.parent < 0
          · have t2 : decide (x.parent < 0) = true := decide_eq_true hp
            have hR : Hid (r = false) := HNo.out j hlt (fun ho => by have := (ho.2.2.1 HJ0.out).1; rw [← HXx.out] at this; omega)
            clear hp
            go_wp2_with fail
            go_ret
            exact ⟨by rw [hR.out]; first | done | rfl, belowT HB.out (belowT HBB.out below1)⟩
          · obtain ⟨q, hq⟩ : ∃ q : Nat, x.parent = (q : Int) := ⟨x.parent.toNat, by omega⟩
            have t2 : decide ((q : Int) < 0) = false := by rw [decide_eq_false_iff_not]; omega
            clear hp
            have HQ := Lib.hid hq
            by_cases hqj : j ≤ q
            · have t3 : decide ((j : Int) ≤ (q : Int)) = true := by rw [decide_eq_true_iff]; omega
              have t3' : decide (j ≤ q) = true := by rw [decide_eq_true_iff]; omega
              have hR : Hid (r = false) := HNo.out j hlt (fun ho => by have := (ho.2.2.1 HJ0.out).2.1; rw [← HXx.out, HQ.out] at this; omega)
              clear hqj
              go_wp2_with fail
              go_ret
              exact ⟨by rw [hR.out]; first | done | rfl, belowT HB.out (belowT HBB.out below1)⟩
            · have t3 : decide ((j : Int) ≤ (q : Int)) = false := by rw [decide_eq_false_iff_not]; omega
              have t3' : decide (j ≤ q) = false := by rw [decide_eq_false_iff_not]; omega
              have HQJ : Hid (q < j) := Nat.lt_of_not_le hqj
              have q0 : (0 : Int) ≤ (q : Int) := by omega
              have qn : (q : Int) < (j : Int) := by omega
              have y4 := nds_slot (keepR B1.out X1.out) (i := q) (by have := HL.out; omega)
              obtain ⟨z3, z4, zl2⟩ := tr_cells (blk_keep B1.out M0.out)
              dsimp only at z3
              rw [sv_mk] at z3
              obtain ⟨n0, n1, n2, n3, n4, nl⟩ := ne_cells N1.out
              rw [hq] at n1
              clear hqj
              by_cases hs : x.slot.toNat ≤ (nd l q).slot.toNat
              · have t4 : decide ((x.slot.toNat : Int) ≤ ((nd l q).slot.toNat : Int)) = true := by rw [decide_eq_true_iff]; omega
                have t4' : decide (x.slot.toNat ≤ (nd l q).slot.toNat) = true := decide_eq_true hs
                have hR : Hid (r = false) := HNo.out j hlt (fun ho => by
                  have := (ho.2.2.1 HJ0.out).2.2
                  unfold sl up at this
                  rw [← HXx.out, HQ.out, Int.toNat_natCast] at this
                  omega)
                clear hs
                go_wp2_with fail
                rw [← HW1.out]
                go_quiet (fail)
                go_wp2_with fail
                go_ret
                exact ⟨by rw [hR.out]; first | done | rfl, belowT HB.out (belowD B1.out _)⟩
              · have t4 : decide ((x.slot.toNat : Int) ≤ ((nd l q).slot.toNat : Int)) = false := by rw [decide_eq_false_iff_not]; omega
                have t4' : decide (x.slot.toNat ≤ (nd l q).slot.toNat) = false := decide_eq_false hs
                have HOk : Hid ((∀ k, k < j → (nd l k).root ≠ x.root) → NodeOk l j) := fun hk => by
                  unfold NodeOk sl up
                  rw [← HXx.out, HQ.out, Int.toNat_natCast]
                  exact ⟨by have := H1.out; omega, fun h => by have := HJ0.out; omega, fun _ => ⟨by omega, by have := HQJ.out; omega, by omega⟩, hk⟩
                clear hs
                go_wp2_with fail
                rw [← HW1.out]
                go_quiet (fail)
                go_wp2_with fail
                go_loopw [5] (fun i wr => ∃ k : Nat, k ≤ j ∧ i = .int .i64 (k : Int) ∧ (∀ m, m < k → (nd l m).root ≠ x.root) ∧ Below W1.heap.size W1 wr) (fun i _ => j - (intOf i).toNat)
                case atStart => exact ⟨0, Nat.zero_le _, rfl, fun m hm => absurd hm (Nat.not_lt_zero _), belowD (Below.refl _ _) _⟩
                case round =>
                  obtain ⟨k, hk, rfl, hx2, hb2⟩ := hrel
                  have HX2 := Lib.hid hx2
                  have HB2 := Lib.hid hb2
                  obtain ⟨z0, z1, zl⟩ := tr_cells (blk_keep (belowT B1.out hb2) M0.out)
                  dsimp only at z0
                  rw [sv_mk] at z0
                  obtain ⟨n0, _, _, _, _, nl⟩ := ne_cells (blk_keep hb2 N1.out)
                  clear hx2 hb2
                  by_cases hlt2 : k < j
                  · have j0 : (0 : Int) ≤ (k : Int) := by omega
                    have j1 : (k : Int) < (n : Int) := by omega
                    have u2 : (k : Int) + 1 < 10000 := by have := HN.out; omega
                    have y3 := keep (belowT B1.out HB2.out) (nds_root X1.out (i := k) (by have := HL.out; omega))
                    by_cases he : (nd l k).root = x.root
                    · rw [he] at y3
                      have t3 := eqB_self x.root
                      have hR : Hid (r = false) := HNo.out j hlt (fun ho => by have := ho.2.2.2 k hlt2; rw [← HXx.out] at this; exact this he)
                      clear he
                      go_wp2_with fail
                      go_quiet (fail)
                      go_wp2_with fail
                      go_ret
                      exact ⟨by rw [hR.out]; first | done | rfl, belowT HB.out (belowD (belowT B1.out HB2.out) _)⟩
                    · have t3 : eqB (nd l k).root x.root = false := decide_eq_false he
                      have HE := Lib.hid he
                      clear he
                      go_wp2_with fail
                      go_quiet (fail)
                      go_wp2_with fail
                      go_roundw
                      case rel => exact ⟨k + 1, by omega, by go_num, fun m hm => by
                        rcases Nat.lt_succ_iff_lt_or_eq.1 hm with h | rfl
                        · exact HX2.out m h
                        · exact HE.out, belowD HB2.out _⟩
                      case measure => simp [intOf]; omega
                  · obtain rfl : j = k := by omega
                    go_wp2_with fail
                    go_roundw
                    case rel => exact ⟨j + 1, by omega, by go_num, fun m hm => by
                      rcases Nat.lt_succ_iff_lt_or_eq.1 hm with h | rfl
                      · exact HX.out m h
                      · exact HOk.out HX2.out, belowT B1.out HB2.out⟩
                    case measure => simp [intOf]; omega
    · obtain rfl : j = n := by omega
      have hR : Hid (r = (decide (1 ≤ j) && decide (j ≤ 12))) := by
        show r = _
        rw [HR.out, Bool.eq_iff_iff, Bool.and_eq_true, decide_eq_true_iff, decide_eq_true_iff, decide_eq_true_iff]
        unfold MayT
        rw [HL.out]
        exact ⟨fun h => ⟨h.1, h.2.1⟩, fun h => ⟨h.1, h.2, HX.out⟩⟩
      have HG := Lib.hid (belowT HB.out HBB.out)
      by_cases g1 : 1 ≤ j
      · by_cases g2 : j ≤ 12
        · have s1 : decide (1 ≤ j) = true := decide_eq_true g1
          have s1' : decide ((1 : Int) ≤ (j : Int)) = true := by rw [decide_eq_true_iff]; omega
          have s2 : decide (j ≤ 12) = true := decide_eq_true g2
          have s2' : decide ((j : Int) ≤ 12) = true := by rw [decide_eq_true_iff]; omega
          have hR' := Lib.hid (show r = true by rw [hR.out, s1, s2]; rfl)
          clear g1 g2
          go_wp2_with fail
          go_ret
          exact ⟨by rw [hR'.out]; first | done | rfl, HG.out⟩
        · have s1 : decide (1 ≤ j) = true := decide_eq_true g1
          have s1' : decide ((1 : Int) ≤ (j : Int)) = true := by rw [decide_eq_true_iff]; omega
          have s2 : decide (j ≤ 12) = false := decide_eq_false g2
          have s2' : decide ((j : Int) ≤ 12) = false := by rw [decide_eq_false_iff_not]; omega
          have hR' := Lib.hid (show r = false by rw [hR.out, s1, s2]; rfl)
          clear g1 g2
          go_wp2_with fail
          go_ret
          exact ⟨by rw [hR'.out]; first | done | rfl, HG.out⟩
      · have s1 : decide (1 ≤ j) = false := decide_eq_false g1
        have hR' := Lib.hid (show r = false by rw [hR.out, s1]; rfl)
        obtain rfl : j = 0 := by omega
        clear g1
        go_wp2_with fail
        go_ret
        exact ⟨by rw [hR'.out]; first | done | rfl, HG.out⟩
/-- A tree's nodes in memory. -/
theorem refMayT (s : SlV) (l : List Nd) (w : World) (h : SlE Ene w (sv s) l) (hn : l.length ≤ 1000) :
    Calls Try.prog 40 #[.agg (tr ⟨s⟩)] w fun e w' => e = .returned (.bool (decide (MayT l))) ∧ Below w.heap.size w w' := by
  have := sv_lenN h
  obtain ⟨p, n, cp⟩ := s
  exact refMay_n p n cp l w h this (by dsimp only at this; omega)
end Go.Proofs.Ytlhnjaeocoafnaa
namespace Go.Proofs.Ytlhnjaeocoafnaa
open Go.RowKit
set_option maxRecDepth 100000

set_option maxRecDepth 100000 in
set_option maxHeartbeats 4000000 in
theorem refFind (s : SlV) (l : List Nd) (r : Rt) (w : World) (h : SlE Ene w (sv s) l) (hn : l.length ≤ 1000) :
    Calls Try.prog 69 #[.agg (tr ⟨s⟩), .agg (rc r)] w fun e w' => e = .returned (.int .i64 (findT l r)) ∧ Below w.heap.size w w' := by
  have HI := Lib.hid (fun W (g : Below w.heap.size w W) => refMayT s l W (slE_keep g h) hn)
  have HL := Lib.hid (sv_lenN h)
  have HN := Lib.hid hn
  obtain ⟨p, n, cp⟩ := s
  dsimp only at HL
  obtain ⟨x, hx⟩ : ∃ x, x = findT l r := ⟨_, rfl⟩
  rw [← hx]
  have HX := Lib.hid hx
  obtain ⟨a, ha⟩ : ∃ a, a = decide (MayT l) := ⟨_, rfl⟩
  rw [← ha] at HI
  obtain ⟨W0, hW0⟩ : ∃ W0, W0 = (w.alloc (.cells (tr ⟨⟨p, n, cp⟩⟩) 24)).alloc (.cells (rc r) 30) := ⟨_, rfl⟩
  have HB : Hid (Below w.heap.size w W0) := by rw [hW0]; exact belowT below1 below1
  have M0 : Hid (W0.heap[w.heap.size]? = some (.cells (tr ⟨⟨p, n, cp⟩⟩) 24 (0, 0))) := by rw [hW0]; exact blk_keep below1 (heap_alloc_last w _)
  have R0 : Hid (ldA W0 (.pointer (some ⟨w.heap.size + 1, 0, none⟩)) 32 = some (rc r)) := by
    rw [hW0]
    have := ldA_block (heap_alloc_last (w.alloc (.cells (tr ⟨⟨p, n, cp⟩⟩) 24)) (.cells (rc r) 30 (0, 0))) (rc_size r)
    show ldA _ _ _ = _
    simpa using this
  have HS := Lib.hid h
  have HW := Lib.hid hW0
  have HA := Lib.hid ha
  clear hW0 h hn hx ha
  go_enter Try.func69, Try.ntmps69
  go_wp2_with fail
  rw [← HW.out]
  refine (HI.out W0 HB.out).mono ?_
  rintro e w1 ⟨rfl, g1⟩
  have GM := Lib.hid (blk_keep g1 M0.out)
  have GR := Lib.hid (keep g1 R0.out)
  have G1 := Lib.hid (belowT HB.out g1)
  clear g1 HB M0 R0 HI HW
  cases a
  · have hX : Hid (x = -1) := by
      show x = -1
      rw [HX.out, find_not]
      intro hm
      have := HA.out
      rw [decide_eq_true hm] at this
      cases this
    obtain ⟨z0, z1, zl⟩ := tr_cells GM.out
    dsimp only at z0
    rw [sv_mk] at z0
    go_wp2_with fail
    refine wp_loop_rounds 1 ?_
    rw [rounds_succ]
    by_cases hz : 0 < n
    · have t0 : decide ((0 : Int) < (n : Int)) = true := by rw [decide_eq_true_iff]; omega
      have t0' : decide (0 < n) = true := decide_eq_true hz
      clear hz
      go_wp2_with fail
      go_ret
      exact ⟨by rw [hX.out]; first | done | rfl, G1.out⟩
    · obtain rfl : n = 0 := by omega
      clear hz
      go_wp2_with fail
      go_ret
      exact ⟨by rw [hX.out]; first | done | rfl, G1.out⟩
  · have HM : Hid (MayT l) := Lib.hid (of_decide_eq_true HA.out.symm)
    obtain ⟨b1, o1, rfl, q1, x1⟩ := slE_ptr HS.out HM.out.pos
    have X1 := Lib.hid (keepR G1.out x1)
    clear x1 HA
    go_wp2_with fail
    go_loopw [6] (fun v wr => ∃ m : Nat, m ≤ n ∧ v = .int .i64 (m : Int) ∧ (∀ k, k < m → (nd l k).root ≠ r) ∧ Below w1.heap.size w1 wr) (fun v _ => n - (intOf v).toNat)
    case atStart => exact ⟨0, Nat.zero_le _, rfl, fun k hk => absurd hk (Nat.not_lt_zero _), Below.refl _ _⟩
    case round =>
      obtain ⟨m, hmn, rfl, hab, hb⟩ := hrel
      have HAB := Lib.hid hab
      have HMN := Lib.hid hmn
      have HBB := Lib.hid hb
      obtain ⟨z0, z1, zl⟩ := tr_cells (blk_keep hb GM.out)
      dsimp only at z0
      rw [sv_mk] at z0
      have zr := keep hb GR.out
      clear hab hmn hb
      by_cases hlt : m < n
      · have u1 : (m : Int) < (n : Int) := by omega
        have u2 : (0 : Int) ≤ (m : Int) := by omega
        have u3 : (m : Int) + 1 < 10000 := by have := HL.out; have := HN.out; omega
        have y1 := nds_root (keepR HBB.out X1.out) (i := m) (by have := HL.out; omega)
        by_cases he : (nd l m).root = r
        · rw [he] at y1
          have t3 := eqB_self r
          have hX : Hid (x = (m : Int)) := by
            show x = _
            rw [HX.out, ← he, find_at HM.out (by have := HL.out; omega)]
          clear he
          go_wp2_with fail
          go_quiet (fail)
          go_wp2_with fail
          go_ret
          exact ⟨by rw [hX.out]; first | done | rfl, belowT G1.out (belowD HBB.out _)⟩
        · have t3 : eqB (nd l m).root r = false := decide_eq_false he
          have HE := Lib.hid he
          clear he
          go_wp2_with fail
          go_quiet (fail)
          go_wp2_with fail
          go_roundw
          case rel => exact ⟨m + 1, by omega, by go_num, fun k hk => by
            rcases Nat.lt_succ_iff_lt_or_eq.1 hk with h | rfl
            · exact HAB.out k h
            · exact HE.out, belowD HBB.out _⟩
          case measure => simp [intOf]; omega
      · obtain rfl : m = n := by have := HMN.out; omega
        have hX : Hid (x = -1) := by
          show x = -1
          rw [HX.out]
          rcases find_spec HM.out r with ⟨i, hi, _, hr⟩ | ⟨e, _⟩
          · exact absurd hr (HAB.out i (by have := HL.out; omega))
          · exact e
        clear hlt
        go_wp2_with fail
        go_ret
        exact ⟨by rw [hX.out]; first | done | rfl, belowT G1.out HBB.out⟩
end Go.Proofs.Ytlhnjaeocoafnaa
