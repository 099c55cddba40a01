/-
  The document's own trees, walked: all its functions in one text (written by wip/gen/mergeR06.py).
-/
import Derived.Test.YtnehebipikhejaaTmem
import Derived.Test.YtnehebipikhejaaKidsT
import Derived.Test.YtnehebipikhejaaTreeIs
import Derived.Test.YtnehebipikhejaaP06Clone
import Derived.Test.YtnehebipikhejaaLexG
import Derived.Test.YtnehebipikhejaaLexA
import Derived.Test.YtnehebipikhejaaCutR
import Derived.Test.YtnehebipikhejaaTn
section
namespace Go.Proofs.Ytnehebipikhejaa
open Go.RowKit

set_option maxRecDepth 100000 in
set_option maxHeartbeats 4000000 in
theorem refMay_n (p : Option Addr) (n cp : Nat) (l : List Nd) (w : World) (h : SlE Ene w (.slice p n cp) l) (hl : l.length = n) (hn : n ≤ 1000) :
    Calls Try.prog 22 #[.agg (tr ⟨⟨p, n, cp⟩⟩)] w fun e w' => e = .returned (.bool (decide (MayT l))) ∧ Below w.heap.size w w' := by
  have HL := Lib.hid hl
  have HN := Lib.hid hn
  obtain ⟨r, hr⟩ : ∃ r, r = decide (MayT l) := ⟨_, rfl⟩
  rw [← hr]
  have HR := Lib.hid hr
  obtain ⟨W0, hW0⟩ : ∃ W0, W0 = w.alloc (.cells (tr ⟨⟨p, n, cp⟩⟩) 24) := ⟨_, rfl⟩
  have HB : Hid (Below w.heap.size w W0) := by rw [hW0]; exact below1
  have M0 : Hid (W0.heap[w.heap.size]? = some (.cells (tr ⟨⟨p, n, cp⟩⟩) 24 (0, 0))) := by rw [hW0]; exact heap_alloc_last w _
  have HS := Lib.hid (slE_keep HB.out h)
  have HW := Lib.hid hW0
  have HNo : Hid (∀ i, i < n → ¬ NodeOk l i → r = false) := by
    intro i hi hno
    rw [hr, decide_eq_false_iff_not]
    exact fun hm => hno (hm.2.2 i (by omega))
  clear hW0 h hl hn hr
  go_enter Try.func22, Try.ntmps22
  go_wp2_with fail
  rw [← HW.out]
  go_loopw [3] (fun i wr => ∃ j : Nat, j ≤ n ∧ i = .int .i64 (j : Int) ∧ (∀ k, k < j → NodeOk l k) ∧ Below W0.heap.size W0 wr) (fun i _ => n - (intOf i).toNat)
  case atStart => exact ⟨0, Nat.zero_le _, rfl, fun k hk => absurd hk (Nat.not_lt_zero _), Below.refl _ _⟩
  case round =>
    obtain ⟨j, hj, rfl, hx, hb⟩ := hrel
    have HX := Lib.hid hx
    have HBB := Lib.hid hb
    obtain ⟨z0, z1, zl⟩ := tr_cells (blk_keep hb M0.out)
    dsimp only at z0
    rw [sv_mk] at z0
    clear hx hb
    obtain ⟨wo, rfl⟩ : ∃ wo : World, wo = wr := ⟨_, rfl⟩
    by_cases hlt : j < n
    · have i0 : (0 : Int) ≤ (j : Int) := by omega
      have i1 : (j : Int) < (n : Int) := by omega
      have u1 : (j : Int) + 1 < 10000 := by have := HN.out; omega
      obtain ⟨b1, o1, c1, e1, _, q1, x1⟩ := slE_ne HS.out (by have := HL.out; omega)
      injection e1 with e2 e4 e3
      clear e4
      subst e2 e3
      have X1 := Lib.hid x1
      have Q1 := Lib.hid q1
      have q1' : b1 < wo.heap.size := Nat.lt_of_lt_of_le q1 HBB.out.size
      have y1 := keep HBB.out (nds_ld x1 (i := j) (by have := HL.out; omega))
      have HXn : Hid (∃ x, x = nd l j) := ⟨_, rfl⟩
      clear x1 q1
      obtain ⟨x, hx⟩ := HXn.out
      rw [← hx] at y1
      have HXx := Lib.hid hx
      clear HXn hx
      by_cases h1 : 1099511627776 < x.slot.toNat
      · have t1 : decide ((1099511627776 : Int) < (x.slot.toNat : Int)) = true := by rw [decide_eq_true_iff]; omega
        have t1' : decide (1099511627776 < x.slot.toNat) = true := decide_eq_true h1
        have hR : Hid (r = false) := HNo.out j hlt (fun ho => by have := ho.1; unfold sl at this; rw [← HXx.out] at this; omega)
        clear h1
        go_wp2_with fail
        go_ret
        exact ⟨by rw [hR.out]; first | done | rfl, belowT HB.out (belowT HBB.out below1)⟩
      · have t1 : decide ((1099511627776 : Int) < (x.slot.toNat : Int)) = false := by rw [decide_eq_false_iff_not]; omega
        have t1' : decide (1099511627776 < x.slot.toNat) = false := decide_eq_false h1
        have H1 := Lib.hid h1
        clear h1
        obtain ⟨W1, hW1⟩ : ∃ W1, W1 = wo.alloc (.cells (ne x) 47) := ⟨_, rfl⟩
        have HW1 := Lib.hid hW1
        have B1 : Hid (Below W0.heap.size W0 W1) := by rw [hW1]; exact belowT HBB.out below1
        have N1 : Hid (W1.heap[wo.heap.size]? = some (.cells (ne x) 47 (0, 0))) := by rw [hW1]; exact heap_alloc_last wo _
        clear hW1
        by_cases h0 : j = 0
        · subst h0
          by_cases hp : x.parent = -1
          · have t2 : (x.parent == -1) = true := by simpa using hp
            have HP := Lib.hid hp
            have HOk : Hid ((∀ k, k < 0 → (nd l k).root ≠ x.root) → NodeOk l 0) := fun hk => by
              unfold NodeOk sl
              rw [← HXx.out]
              exact ⟨by have := H1.out; omega, fun _ => HP.out, fun h => absurd h (Nat.lt_irrefl _), hk⟩
            clear hp
            rw [Nat.zero_mul, Nat.add_zero] at y1
            go_wp2_with fail
            go_quiet (fail)
            go_wp2_with fail
            rw [← HW1.out]
            go_loopw [5] (fun i wr => ∃ k : Nat, k ≤ 0 ∧ i = .int .i64 (k : Int) ∧ (∀ m, m < k → (nd l m).root ≠ x.root) ∧ Below W1.heap.size W1 wr) (fun i _ => 0 - (intOf i).toNat)
            case atStart => exact ⟨0, Nat.zero_le _, rfl, fun m hm => absurd hm (Nat.not_lt_zero _), belowD (Below.refl _ _) _⟩
            case round =>
              obtain ⟨k, hk, rfl, hx2, hb2⟩ := hrel
              have HX2 := Lib.hid hx2
              have HB2 := Lib.hid hb2
              obtain ⟨z0, z1, zl⟩ := tr_cells (blk_keep (belowT B1.out hb2) M0.out)
              dsimp only at z0
              rw [sv_mk] at z0
              obtain ⟨n0, _, _, _, _, nl⟩ := ne_cells (blk_keep hb2 N1.out)
              clear hx2 hb2
              by_cases hlt2 : k < 0
              · exact absurd hlt2 (Nat.not_lt_zero _)
              · obtain rfl : 0 = k := by omega
                go_wp2_with fail
                go_roundw
                case rel => exact ⟨0 + 1, by omega, by go_num, fun m hm => by
                  rcases Nat.lt_succ_iff_lt_or_eq.1 hm with h | rfl
                  · exact HX.out m h
                  · exact HOk.out HX2.out, belowT B1.out HB2.out⟩
                case measure => simp [intOf]; omega
          · have t2 : (x.parent != -1) = true := by simpa using hp
            have hR : Hid (r = false) := HNo.out 0 hlt (fun ho => by have := ho.2.1 rfl; rw [← HXx.out] at this; exact hp this)
            clear hp
            rw [Nat.zero_mul, Nat.add_zero] at y1
            go_wp2_with fail
            go_ret
            exact ⟨by rw [hR.out]; first | done | rfl, belowT HB.out (belowT HBB.out below1)⟩
        · have HJ0 : Hid (0 < j) := Nat.pos_of_ne_zero h0
          have c0 : ((j : Int) == 0) = false := by simpa using h0
          have c0' : decide ((j : Int) = 0) = false := by simpa using h0
          have c0'' : decide (j = 0) = false := by simpa using h0
          have c1 : decide ((0 : Int) < (j : Int)) = true := by rw [decide_eq_true_iff]; omega
          have c1' : decide (0 < j) = true := by rw [decide_eq_true_iff]; omega
          clear h0
          by_cases hp : x.parent < 0
          · have t2 : decide (x.parent < 0) = true := decide_eq_true hp
            have hR : Hid (r = false) := HNo.out j hlt (fun ho => by have := (ho.2.2.1 HJ0.out).1; rw [← HXx.out] at this; omega)
            clear hp
            go_wp2_with fail
            go_ret
            exact ⟨by rw [hR.out]; first | done | rfl, belowT HB.out (belowT HBB.out below1)⟩
          · obtain ⟨q, hq⟩ : ∃ q : Nat, x.parent = (q : Int) := ⟨x.parent.toNat, by omega⟩
            have t2 : decide ((q : Int) < 0) = false := by rw [decide_eq_false_iff_not]; omega
            clear hp
            have HQ := Lib.hid hq
            by_cases hqj : j ≤ q
            · have t3 : decide ((j : Int) ≤ (q : Int)) = true := by rw [decide_eq_true_iff]; omega
              have t3' : decide (j ≤ q) = true := by rw [decide_eq_true_iff]; omega
              have hR : Hid (r = false) := HNo.out j hlt (fun ho => by have := (ho.2.2.1 HJ0.out).2.1; rw [← HXx.out, HQ.out] at this; omega)
              clear hqj
              go_wp2_with fail
              go_ret
              exact ⟨by rw [hR.out]; first | done | rfl, belowT HB.out (belowT HBB.out below1)⟩
            · have t3 : decide ((j : Int) ≤ (q : Int)) = false := by rw [decide_eq_false_iff_not]; omega
              have t3' : decide (j ≤ q) = false := by rw [decide_eq_false_iff_not]; omega
              have HQJ : Hid (q < j) := Nat.lt_of_not_le hqj
              have q0 : (0 : Int) ≤ (q : Int) := by omega
              have qn : (q : Int) < (j : Int) := by omega
              have y4 := nds_slot (keepR B1.out X1.out) (i := q) (by have := HL.out; omega)
              obtain ⟨z3, z4, zl2⟩ := tr_cells (blk_keep B1.out M0.out)
              dsimp only at z3
              rw [sv_mk] at z3
              obtain ⟨n0, n1, n2, n3, n4, nl⟩ := ne_cells N1.out
              rw [hq] at n1
              clear hqj
              by_cases hs : x.slot.toNat ≤ (nd l q).slot.toNat
              · have t4 : decide ((x.slot.toNat : Int) ≤ ((nd l q).slot.toNat : Int)) = true := by rw [decide_eq_true_iff]; omega
                have t4' : decide (x.slot.toNat ≤ (nd l q).slot.toNat) = true := decide_eq_true hs
                have hR : Hid (r = false) := HNo.out j hlt (fun ho => by
                  have := (ho.2.2.1 HJ0.out).2.2
                  unfold sl up at this
                  rw [← HXx.out, HQ.out, Int.toNat_natCast] at this
                  omega)
                clear hs
                go_wp2_with fail
                rw [← HW1.out]
                go_quiet (fail)
                go_wp2_with fail
                go_ret
                exact ⟨by rw [hR.out]; first | done | rfl, belowT HB.out (belowD B1.out _)⟩
              · have t4 : decide ((x.slot.toNat : Int) ≤ ((nd l q).slot.toNat : Int)) = false := by rw [decide_eq_false_iff_not]; omega
                have t4' : decide (x.slot.toNat ≤ (nd l q).slot.toNat) = false := decide_eq_false hs
                have HOk : Hid ((∀ k, k < j → (nd l k).root ≠ x.root) → NodeOk l j) := fun hk => by
                  unfold NodeOk sl up
                  rw [← HXx.out, HQ.out, Int.toNat_natCast]
                  exact ⟨by have := H1.out; omega, fun h => by have := HJ0.out; omega, fun _ => ⟨by omega, by have := HQJ.out; omega, by omega⟩, hk⟩
                clear hs
                go_wp2_with fail
                rw [← HW1.out]
                go_quiet (fail)
                go_wp2_with fail
                go_loopw [5] (fun i wr => ∃ k : Nat, k ≤ j ∧ i = .int .i64 (k : Int) ∧ (∀ m, m < k → (nd l m).root ≠ x.root) ∧ Below W1.heap.size W1 wr) (fun i _ => j - (intOf i).toNat)
                case atStart => exact ⟨0, Nat.zero_le _, rfl, fun m hm => absurd hm (Nat.not_lt_zero _), belowD (Below.refl _ _) _⟩
                case round =>
                  obtain ⟨k, hk, rfl, hx2, hb2⟩ := hrel
                  have HX2 := Lib.hid hx2
                  have HB2 := Lib.hid hb2
                  obtain ⟨z0, z1, zl⟩ := tr_cells (blk_keep (belowT B1.out hb2) M0.out)
                  dsimp only at z0
                  rw [sv_mk] at z0
                  obtain ⟨n0, _, _, _, _, nl⟩ := ne_cells (blk_keep hb2 N1.out)
                  clear hx2 hb2
                  by_cases hlt2 : k < j
                  · have j0 : (0 : Int) ≤ (k : Int) := by omega
                    have j1 : (k : Int) < (n : Int) := by omega
                    have u2 : (k : Int) + 1 < 10000 := by have := HN.out; omega
                    have y3 := keep (belowT B1.out HB2.out) (nds_root X1.out (i := k) (by have := HL.out; omega))
                    by_cases he : (nd l k).root = x.root
                    · rw [he] at y3
                      have t3 := eqB_self x.root
                      have hR : Hid (r = false) := HNo.out j hlt (fun ho => by have := ho.2.2.2 k hlt2; rw [← HXx.out] at this; exact this he)
                      clear he
                      go_wp2_with fail
                      go_quiet (fail)
                      go_wp2_with fail
                      go_ret
                      exact ⟨by rw [hR.out]; first | done | rfl, belowT HB.out (belowD (belowT B1.out HB2.out) _)⟩
                    · have t3 : eqB (nd l k).root x.root = false := decide_eq_false he
                      have HE := Lib.hid he
                      clear he
                      go_wp2_with fail
                      go_quiet (fail)
                      go_wp2_with fail
                      go_roundw
                      case rel => exact ⟨k + 1, by omega, by go_num, fun m hm => by
                        rcases Nat.lt_succ_iff_lt_or_eq.1 hm with h | rfl
                        · exact HX2.out m h
                        · exact HE.out, belowD HB2.out _⟩
                      case measure => simp [intOf]; omega
                  · obtain rfl : j = k := by omega
                    go_wp2_with fail
                    go_roundw
                    case rel => exact ⟨j + 1, by omega, by go_num, fun m hm => by
                      rcases Nat.lt_succ_iff_lt_or_eq.1 hm with h | rfl
                      · exact HX.out m h
                      · exact HOk.out HX2.out, belowT B1.out HB2.out⟩
                    case measure => simp [intOf]; omega
    · obtain rfl : j = n := by omega
      have hR : Hid (r = (decide (1 ≤ j) && decide (j ≤ 12))) := by
        show r = _
        rw [HR.out, Bool.eq_iff_iff, Bool.and_eq_true, decide_eq_true_iff, decide_eq_true_iff, decide_eq_true_iff]
        unfold MayT
        rw [HL.out]
        exact ⟨fun h => ⟨h.1, h.2.1⟩, fun h => ⟨h.1, h.2, HX.out⟩⟩
      have HG := Lib.hid (belowT HB.out HBB.out)
      by_cases g1 : 1 ≤ j
      · by_cases g2 : j ≤ 12
        · have s1 : decide (1 ≤ j) = true := decide_eq_true g1
          have s1' : decide ((1 : Int) ≤ (j : Int)) = true := by rw [decide_eq_true_iff]; omega
          have s2 : decide (j ≤ 12) = true := decide_eq_true g2
          have s2' : decide ((j : Int) ≤ 12) = true := by rw [decide_eq_true_iff]; omega
          have hR' := Lib.hid (show r = true by rw [hR.out, s1, s2]; rfl)
          clear g1 g2
          go_wp2_with fail
          go_ret
          exact ⟨by rw [hR'.out]; first | done | rfl, HG.out⟩
        · have s1 : decide (1 ≤ j) = true := decide_eq_true g1
          have s1' : decide ((1 : Int) ≤ (j : Int)) = true := by rw [decide_eq_true_iff]; omega
          have s2 : decide (j ≤ 12) = false := decide_eq_false g2
          have s2' : decide ((j : Int) ≤ 12) = false := by rw [decide_eq_false_iff_not]; omega
          have hR' := Lib.hid (show r = false by rw [hR.out, s1, s2]; rfl)
          clear g1 g2
          go_wp2_with fail
          go_ret
          exact ⟨by rw [hR'.out]; first | done | rfl, HG.out⟩
      · have s1 : decide (1 ≤ j) = false := decide_eq_false g1
        have hR' := Lib.hid (show r = false by rw [hR.out, s1]; rfl)
        obtain rfl : j = 0 := by omega
        clear g1
        go_wp2_with fail
        go_ret
        exact ⟨by rw [hR'.out]; first | done | rfl, HG.out⟩
/-- A tree's nodes in memory. -/
theorem refMayT (s : SlV) (l : List Nd) (w : World) (h : SlE Ene w (sv s) l) (hn : l.length ≤ 1000) :
    Calls Try.prog 22 #[.agg (tr ⟨s⟩)] w fun e w' => e = .returned (.bool (decide (MayT l))) ∧ Below w.heap.size w w' := by
  have := sv_lenN h
  obtain ⟨p, n, cp⟩ := s
  exact refMay_n p n cp l w h this (by dsimp only at this; omega)
end Go.Proofs.Ytnehebipikhejaa
end

section
namespace Go.Proofs.Ytnehebipikhejaa
open Go.RowKit

set_option maxRecDepth 100000 in
set_option maxHeartbeats 4000000 in
theorem refIs (s : SlV) (l : List Nd) (i : Int) (w : World) (h : SlE Ene w (sv s) l) (hn : l.length ≤ 1000) :
    Calls Try.prog 36 #[.agg (tr ⟨s⟩), .int .i64 i] w fun e w' => e = .returned (.bool (isT l i)) ∧ Below w.heap.size w w' := by
  have HN : Hid (l.length ≤ 1000) := Lib.hid hn
  have HM := Lib.hid (fun W (g : Below w.heap.size w W) => refMayT s l W (slE_keep g h) hn)
  have hl := sv_lenN h
  obtain ⟨p, n, cp⟩ := s
  dsimp only at hl
  obtain ⟨r, hr⟩ : ∃ r, r = decide (MayT l) := ⟨_, rfl⟩
  rw [← hr] at HM
  obtain ⟨x, hx⟩ : ∃ x, x = isT l i := ⟨_, rfl⟩
  rw [← hx]
  have HX : Hid (x = (r && (decide (0 ≤ i) && decide (i < (n : Int))))) := by rw [hx, hr]; unfold isT; rw [hl]; rfl
  obtain ⟨W0, hW0⟩ : ∃ W0, W0 = w.alloc (.cells (tr ⟨⟨p, n, cp⟩⟩) 24) := ⟨_, rfl⟩
  have HB : Hid (Below w.heap.size w W0) := by rw [hW0]; exact below1
  have M0 : Hid (W0.heap[w.heap.size]? = some (.cells (tr ⟨⟨p, n, cp⟩⟩) 24 (0, 0))) := by rw [hW0]; exact heap_alloc_last w _
  have HW := Lib.hid hW0
  clear hW0 h hl hn hr hx
  go_enter Try.func36, Try.ntmps36
  go_wp2_with fail
  rw [← HW.out]
  refine (HM.out W0 HB.out).mono ?_
  rintro e w1 ⟨rfl, g1⟩
  have G1 := Lib.hid (belowT HB.out g1)
  obtain ⟨z0, z1, zl⟩ := tr_cells (blk_keep g1 M0.out)
  dsimp only at z0
  rw [sv_mk] at z0
  cases r
  · go_wp2_with fail
    go_ret
    exact ⟨by rw [HX.out]; rfl, G1.out⟩
  · by_cases h0 : 0 ≤ i
    · have t0 : decide (0 ≤ i) = true := decide_eq_true h0
      by_cases h1 : i < (n : Int)
      · have t1 : decide (i < (n : Int)) = true := decide_eq_true h1
        have hX : Hid (x = true) := by show x = true; rw [HX.out, t0, t1]; rfl
        clear h0 h1
        go_wp2_with fail
        go_ret
        exact ⟨by rw [hX.out]; first | done | rfl, G1.out⟩
      · have t1 : decide (i < (n : Int)) = false := decide_eq_false h1
        have hX : Hid (x = false) := by show x = false; rw [HX.out, t0, t1]; rfl
        clear h0 h1
        go_wp2_with fail
        go_ret
        exact ⟨by rw [hX.out]; first | done | rfl, G1.out⟩
    · have t0 : decide (0 ≤ i) = false := decide_eq_false h0
      have hX : Hid (x = false) := by show x = false; rw [HX.out, t0]; rfl
      clear h0
      go_wp2_with fail
      go_ret
      exact ⟨by rw [hX.out]; first | done | rfl, G1.out⟩
end Go.Proofs.Ytnehebipikhejaa
end

section
namespace Go.Proofs.Ytnehebipikhejaa
open Go.RowKit

set_option maxRecDepth 100000 in
set_option maxHeartbeats 4000000 in
theorem refAbove (s : SlV) (l : List Nd) (i k : Int) (w : World) (h : SlE Ene w (sv s) l) (hn : l.length ≤ 1000) :
    Calls Try.prog 23 #[.agg (tr ⟨s⟩), .int .i64 i, .int .i64 k] w fun e w' => e = .returned (.bool (aboveZ l i k)) ∧ Below w.heap.size w w' := by
  have HI := Lib.hid (fun W (g : Below w.heap.size w W) => refIs s l i W (slE_keep g h) hn)
  have HK := Lib.hid (fun W (g : Below w.heap.size w W) => refIs s l k W (slE_keep g h) hn)
  have HL := Lib.hid (sv_lenN h)
  obtain ⟨p, n, cp⟩ := s
  dsimp only at HL
  obtain ⟨x, hx⟩ : ∃ x, x = aboveZ l i k := ⟨_, rfl⟩
  rw [← hx]
  have HX := Lib.hid hx
  obtain ⟨a, ha⟩ : ∃ a, a = isT l i := ⟨_, rfl⟩
  obtain ⟨b, hb⟩ : ∃ b, b = isT l k := ⟨_, rfl⟩
  rw [← ha] at HI
  rw [← hb] at HK
  obtain ⟨W0, hW0⟩ : ∃ W0, W0 = w.alloc (.cells (tr ⟨⟨p, n, cp⟩⟩) 24) := ⟨_, rfl⟩
  have HB : Hid (Below w.heap.size w W0) := by rw [hW0]; exact below1
  have M0 : Hid (W0.heap[w.heap.size]? = some (.cells (tr ⟨⟨p, n, cp⟩⟩) 24 (0, 0))) := by rw [hW0]; exact heap_alloc_last w _
  have HS := Lib.hid h
  have HW := Lib.hid hW0
  have HXF : Hid (a = false → x = false) := fun e => by rw [HX.out]; unfold aboveZ; rw [← ha, e]; rfl
  have HXG : Hid (b = false → x = false) := fun e => by rw [HX.out]; unfold aboveZ; rw [← hb, e, Bool.and_false]; rfl
  have HA := Lib.hid ha
  have HBB := Lib.hid hb
  clear hW0 h hn hx ha hb
  go_enter Try.func23, Try.ntmps23
  go_wp2_with fail
  rw [← HW.out]
  refine (HI.out W0 HB.out).mono ?_
  rintro e w1 ⟨rfl, g1⟩
  have G1 := Lib.hid g1
  obtain ⟨z0, z1, zl⟩ := tr_cells (blk_keep g1 M0.out)
  dsimp only at z0
  rw [sv_mk] at z0
  clear g1
  go_wp2_with fail
  refine (HK.out w1 (belowT HB.out G1.out)).mono ?_
  rintro e w2 ⟨rfl, g2⟩
  have G2 := Lib.hid (belowT (belowT HB.out G1.out) g2)
  have G3 := Lib.hid (belowT G1.out g2)
  clear z0 z1 zl g2
  obtain ⟨z0, z1, zl⟩ := tr_cells (blk_keep G3.out M0.out)
  dsimp only at z0
  rw [sv_mk] at z0
  cases a
  · have hX : Hid (x = false) := HXF.out rfl
    go_wp2_with fail
    go_ret
    exact ⟨by rw [hX.out]; first | done | rfl, G2.out⟩
  · cases b
    · have hX : Hid (x = false) := HXG.out rfl
      go_wp2_with fail
      go_ret
      exact ⟨by rw [hX.out]; first | done | rfl, G2.out⟩
    · obtain ⟨hm, hi0, hi1⟩ := isT_iff.1 HA.out.symm
      obtain ⟨_, hk0, hk1⟩ := isT_iff.1 HBB.out.symm
      obtain ⟨i', rfl⟩ : ∃ i' : Nat, i = i' := ⟨i.toNat, by omega⟩
      obtain ⟨k', rfl⟩ : ∃ k' : Nat, k = k' := ⟨k.toNat, by omega⟩
      have HX' : Hid (x = aboveT l i' k') := by show x = _; rw [HX.out, aboveZ_nat hm (by omega) (by omega)]
      have HM := Lib.hid hm
      have HI1 : Hid (i' < n) := by show i' < n; have := HL.out; omega
      have HK1 : Hid (k' < n) := by show k' < n; have := HL.out; omega
      clear hi0 hi1 hk0 hk1 HXF HXG HX HA HBB HI HK
      obtain ⟨b1, o1, rfl, q1, x1⟩ := slE_ptr HS.out hm.pos
      have X1 := Lib.hid (keepR G2.out x1)
      clear hm x1
      have u0 : (i' : Int) < 10000 := by have := HI1.out; have := HM.out.le; have := HL.out; omega
      have u00 : (0 : Int) ≤ (i' : Int) := by omega
      go_wp2_with fail
      go_loop [2] (fun v => ∃ m : Nat, m < n ∧ v = .int .i64 (m : Int) ∧ aboveT l i' m = aboveT l i' k') (fun v => (intOf v).toNat)
      case atStart => exact ⟨k', HK1.out, rfl, rfl⟩
      case round =>
        obtain ⟨m, hmn, rfl, hab⟩ := hrel
        have HAB := Lib.hid hab
        have HMN := Lib.hid hmn
        clear hab hmn
        have u1 : (m : Int) < (n : Int) := by have := HMN.out; omega
        have u2 : (0 : Int) ≤ (m : Int) := by omega
        by_cases hlt : i' < m
        · have t1 : decide ((i' : Int) < (m : Int)) = true := by rw [decide_eq_true_iff]; omega
          obtain ⟨hp, hu, _⟩ := HM.out.par (k := m) (by omega) (by have := HL.out; have := HMN.out; omega)
          have y1 := nds_par X1.out (i := m) (by have := HL.out; have := HMN.out; omega)
          rw [hp] at y1
          have HU := Lib.hid hu
          have HLT := Lib.hid hlt
          clear hp hu hlt
          go_wp2_with fail
          go_round
          case rel => exact ⟨up l m, by have := HU.out; have := HMN.out; omega, rfl, by
            rw [← HAB.out, above_up HM.out i' (k := m) (by have := HLT.out; omega) (by have := HL.out; have := HMN.out; omega), if_pos HLT.out]⟩
          case measure => have := HU.out; simp [intOf]; omega
        · have t1 : decide ((i' : Int) < (m : Int)) = false := by rw [decide_eq_false_iff_not]; omega
          have t1' : decide (i' < m) = false := decide_eq_false hlt
          have HR : Hid (x = ((m : Int) == (i' : Int))) := by
            show x = _
            rw [HX'.out, ← HAB.out, above_stop HM.out (by have := HL.out; have := HMN.out; omega) hlt, Bool.eq_iff_iff, decide_eq_true_iff, beq_iff_eq]
            omega
          clear hlt
          go_wp2_with fail
          go_ret
          exact ⟨by rw [HR.out]; first | done | rfl, G2.out⟩
end Go.Proofs.Ytnehebipikhejaa
end

section
namespace Go.Proofs.Ytnehebipikhejaa
open Go.RowKit

set_option maxRecDepth 100000 in
set_option maxHeartbeats 4000000 in
theorem refAt (s : SlV) (l : List Nd) (i : Int) (q : UInt64) (w : World) (h : SlE Ene w (sv s) l) (hn : l.length ≤ 1000) :
    Calls Try.prog 28 #[.agg (tr ⟨s⟩), .int .i64 i, .int .u64 (q.toNat : Int)] w fun e w' => e = .returned (.int .i64 (atZ l i q.toNat)) ∧ Below w.heap.size w w' := by
  have HI := Lib.hid (fun W (g : Below w.heap.size w W) => refIs s l i W (slE_keep g h) hn)
  have HL := Lib.hid (sv_lenN h)
  obtain ⟨p, n, cp⟩ := s
  dsimp only at HL
  obtain ⟨x, hx⟩ : ∃ x, x = atZ l i q.toNat := ⟨_, rfl⟩
  rw [← hx]
  have HX := Lib.hid hx
  obtain ⟨a, ha⟩ : ∃ a, a = isT l i := ⟨_, rfl⟩
  rw [← ha] at HI
  obtain ⟨W0, hW0⟩ : ∃ W0, W0 = w.alloc (.cells (tr ⟨⟨p, n, cp⟩⟩) 24) := ⟨_, rfl⟩
  have HB : Hid (Below w.heap.size w W0) := by rw [hW0]; exact below1
  have M0 : Hid (W0.heap[w.heap.size]? = some (.cells (tr ⟨⟨p, n, cp⟩⟩) 24 (0, 0))) := by rw [hW0]; exact heap_alloc_last w _
  have HS := Lib.hid h
  have HW := Lib.hid hW0
  have HA := Lib.hid ha
  clear hW0 h hn hx ha
  go_enter Try.func28, Try.ntmps28
  go_wp2_with fail
  rw [← HW.out]
  refine (HI.out W0 HB.out).mono ?_
  rintro e w1 ⟨rfl, g1⟩
  have G1 := Lib.hid (belowT HB.out g1)
  obtain ⟨z0, z1, zl⟩ := tr_cells (blk_keep g1 M0.out)
  dsimp only at z0
  rw [sv_mk] at z0
  clear g1
  cases a
  · have hX : Hid (x = -1) := by show x = -1; rw [HX.out]; unfold atZ; rw [← HA.out]; rfl
    go_wp2_with fail
    go_ret
    exact ⟨by rw [hX.out]; first | done | rfl, G1.out⟩
  · obtain ⟨hm, hi0, hi1⟩ := isT_iff.1 HA.out.symm
    obtain ⟨i', rfl⟩ : ∃ i' : Nat, i = i' := ⟨i.toNat, by omega⟩
    have HX' : Hid (x = atT l i' q.toNat) := by show x = _; rw [HX.out, atZ_nat hm (by omega)]
    have HM := Lib.hid hm
    have HI1 : Hid (i' < n) := by show i' < n; have := HL.out; omega
    clear hi0 hi1 HX HA HI
    obtain ⟨b1, o1, rfl, q1, x1⟩ := slE_ptr HS.out hm.pos
    have X1 := Lib.hid (keepR G1.out x1)
    clear hm x1
    go_wp2_with fail
    go_loop [1] (fun v => ∃ m : Nat, m ≤ n ∧ v = .int .i64 ((m : Int) - 1) ∧ (if m = 0 then -1 else atT l (m - 1) q.toNat) = atT l i' q.toNat) (fun v => (intOf v + 1).toNat)
    case atStart => exact ⟨i' + 1, HI1.out, by rw [show ((i' + 1 : Nat) : Int) - 1 = (i' : Int) by omega], by rw [if_neg (Nat.succ_ne_zero _), Nat.add_sub_cancel]⟩
    case round =>
      obtain ⟨m, hmn, rfl, hab⟩ := hrel
      have HAB := Lib.hid hab
      have HMN := Lib.hid hmn
      clear hab hmn
      by_cases h0 : m = 0
      · subst h0
        have hX : Hid (x = -1) := by show x = -1; rw [HX'.out, ← HAB.out]; rfl
        rw [show (((0 : Nat) : Int) - 1) = -1 from rfl]
        go_wp2_with fail
        go_ret
        exact ⟨by rw [hX.out]; first | done | rfl, G1.out⟩
      · obtain ⟨k, rfl⟩ : ∃ k, m = k + 1 := ⟨m - 1, by omega⟩
        rw [show (((k + 1 : Nat) : Int) - 1) = (k : Int) by omega]
        have HAB' : Hid (atT l k q.toNat = atT l i' q.toNat) := by have := HAB.out; rw [if_neg h0, Nat.add_sub_cancel] at this; exact this
        have HKN : Hid (k < n) := HMN.out
        clear HAB HMN h0
        have u1 : (k : Int) < (n : Int) := by have := HKN.out; omega
        have u2 : (0 : Int) ≤ (k : Int) := by omega
        have y1 := nds_par X1.out (i := k) (by have := HL.out; have := HKN.out; omega)
        have y2 := nds_slot X1.out (i := k) (by have := HL.out; have := HKN.out; omega)
        by_cases hs : q.toNat < sl l k
        · have t1 : decide ((q.toNat : Int) < ((nd l k).slot.toNat : Int)) = true := by rw [decide_eq_true_iff]; unfold sl at hs; omega
          have t1' : decide (q.toNat < (nd l k).slot.toNat) = true := decide_eq_true hs
          by_cases hk : k = 0
          · subst hk
            rw [HM.out.first] at y1
            have HR : Hid (-1 = atT l i' q.toNat) := by show _ = _; rw [← HAB'.out, at_zero, if_neg (by omega)]
            clear hs
            go_wp2_with fail
            go_round
            case rel => exact ⟨0, Nat.zero_le _, rfl, HR.out⟩
            case measure => simp [intOf]
          · obtain ⟨hp, hu, _⟩ := HM.out.par (k := k) (by omega) (by have := HL.out; have := HKN.out; omega)
            rw [hp] at y1
            have HU := Lib.hid hu
            have HR : Hid (atT l (up l k) q.toNat = atT l i' q.toNat) := by show _ = _; rw [← HAB'.out, at_up HM.out q.toNat (k := k) (by omega) (by have := HL.out; have := HKN.out; omega), if_neg (by omega)]
            clear hs hk hp hu
            go_wp2_with fail
            go_round
            case rel => exact ⟨up l k + 1, by have := HU.out; have := HKN.out; omega, by rw [show ((up l k + 1 : Nat) : Int) - 1 = (up l k : Int) by omega], by rw [if_neg (Nat.succ_ne_zero _), Nat.add_sub_cancel]; exact HR.out⟩
            case measure => have := HU.out; simp [intOf]; omega
        · have t1 : decide ((q.toNat : Int) < ((nd l k).slot.toNat : Int)) = false := by rw [decide_eq_false_iff_not]; unfold sl at hs; omega
          have t1' : decide (q.toNat < (nd l k).slot.toNat) = false := decide_eq_false hs
          have hX : Hid (x = (k : Int)) := by show x = _; rw [HX'.out, ← HAB'.out, at_self HM.out (by have := HL.out; have := HKN.out; omega) (by omega)]
          clear hs
          go_wp2_with fail
          go_ret
          exact ⟨by rw [hX.out]; first | done | rfl, G1.out⟩
end Go.Proofs.Ytnehebipikhejaa
end

section
namespace Go.Proofs.Ytnehebipikhejaa
open Go.RowKit

set_option maxRecDepth 100000 in
set_option maxHeartbeats 4000000 in
theorem refFind (s : SlV) (l : List Nd) (r : Rt) (w : World) (h : SlE Ene w (sv s) l) (hn : l.length ≤ 1000) :
    Calls Try.prog 30 #[.agg (tr ⟨s⟩), .agg (rc r)] w fun e w' => e = .returned (.int .i64 (findT l r)) ∧ Below w.heap.size w w' := by
  have HI := Lib.hid (fun W (g : Below w.heap.size w W) => refMayT s l W (slE_keep g h) hn)
  have HL := Lib.hid (sv_lenN h)
  have HN := Lib.hid hn
  obtain ⟨p, n, cp⟩ := s
  dsimp only at HL
  obtain ⟨x, hx⟩ : ∃ x, x = findT l r := ⟨_, rfl⟩
  rw [← hx]
  have HX := Lib.hid hx
  obtain ⟨a, ha⟩ : ∃ a, a = decide (MayT l) := ⟨_, rfl⟩
  rw [← ha] at HI
  obtain ⟨W0, hW0⟩ : ∃ W0, W0 = (w.alloc (.cells (tr ⟨⟨p, n, cp⟩⟩) 24)).alloc (.cells (rc r) 26) := ⟨_, rfl⟩
  have HB : Hid (Below w.heap.size w W0) := by rw [hW0]; exact belowT below1 below1
  have M0 : Hid (W0.heap[w.heap.size]? = some (.cells (tr ⟨⟨p, n, cp⟩⟩) 24 (0, 0))) := by rw [hW0]; exact blk_keep below1 (heap_alloc_last w _)
  have R0 : Hid (ldA W0 (.pointer (some ⟨w.heap.size + 1, 0, none⟩)) 32 = some (rc r)) := by
    rw [hW0]
    have := ldA_block (heap_alloc_last (w.alloc (.cells (tr ⟨⟨p, n, cp⟩⟩) 24)) (.cells (rc r) 26 (0, 0))) (rc_size r)
    show ldA _ _ _ = _
    simpa using this
  have HS := Lib.hid h
  have HW := Lib.hid hW0
  have HA := Lib.hid ha
  clear hW0 h hn hx ha
  go_enter Try.func30, Try.ntmps30
  go_wp2_with fail
  rw [← HW.out]
  refine (HI.out W0 HB.out).mono ?_
  rintro e w1 ⟨rfl, g1⟩
  have GM := Lib.hid (blk_keep g1 M0.out)
  have GR := Lib.hid (keep g1 R0.out)
  have G1 := Lib.hid (belowT HB.out g1)
  clear g1 HB M0 R0 HI HW
  cases a
  · have hX : Hid (x = -1) := by
      show x = -1
      rw [HX.out, find_not]
      intro hm
      have := HA.out
      rw [decide_eq_true hm] at this
      cases this
    obtain ⟨z0, z1, zl⟩ := tr_cells GM.out
    dsimp only at z0
    rw [sv_mk] at z0
    go_wp2_with fail
    refine wp_loop_rounds 1 ?_
    rw [rounds_succ]
    by_cases hz : 0 < n
    · have t0 : decide ((0 : Int) < (n : Int)) = true := by rw [decide_eq_true_iff]; omega
      have t0' : decide (0 < n) = true := decide_eq_true hz
      clear hz
      go_wp2_with fail
      go_ret
      exact ⟨by rw [hX.out]; first | done | rfl, G1.out⟩
    · obtain rfl : n = 0 := by omega
      clear hz
      go_wp2_with fail
      go_ret
      exact ⟨by rw [hX.out]; first | done | rfl, G1.out⟩
  · have HM : Hid (MayT l) := Lib.hid (of_decide_eq_true HA.out.symm)
    obtain ⟨b1, o1, rfl, q1, x1⟩ := slE_ptr HS.out HM.out.pos
    have X1 := Lib.hid (keepR G1.out x1)
    clear x1 HA
    go_wp2_with fail
    go_loopw [6] (fun v wr => ∃ m : Nat, m ≤ n ∧ v = .int .i64 (m : Int) ∧ (∀ k, k < m → (nd l k).root ≠ r) ∧ Below w1.heap.size w1 wr) (fun v _ => n - (intOf v).toNat)
    case atStart => exact ⟨0, Nat.zero_le _, rfl, fun k hk => absurd hk (Nat.not_lt_zero _), Below.refl _ _⟩
    case round =>
      obtain ⟨m, hmn, rfl, hab, hb⟩ := hrel
      have HAB := Lib.hid hab
      have HMN := Lib.hid hmn
      have HBB := Lib.hid hb
      obtain ⟨z0, z1, zl⟩ := tr_cells (blk_keep hb GM.out)
      dsimp only at z0
      rw [sv_mk] at z0
      have zr := keep hb GR.out
      clear hab hmn hb
      by_cases hlt : m < n
      · have u1 : (m : Int) < (n : Int) := by omega
        have u2 : (0 : Int) ≤ (m : Int) := by omega
        have u3 : (m : Int) + 1 < 10000 := by have := HL.out; have := HN.out; omega
        have y1 := nds_root (keepR HBB.out X1.out) (i := m) (by have := HL.out; omega)
        by_cases he : (nd l m).root = r
        · rw [he] at y1
          have t3 := eqB_self r
          have hX : Hid (x = (m : Int)) := by
            show x = _
            rw [HX.out, ← he, find_at HM.out (by have := HL.out; omega)]
          clear he
          go_wp2_with fail
          go_quiet (fail)
          go_wp2_with fail
          go_ret
          exact ⟨by rw [hX.out]; first | done | rfl, belowT G1.out (belowD HBB.out _)⟩
        · have t3 : eqB (nd l m).root r = false := decide_eq_false he
          have HE := Lib.hid he
          clear he
          go_wp2_with fail
          go_quiet (fail)
          go_wp2_with fail
          go_roundw
          case rel => exact ⟨m + 1, by omega, by go_num, fun k hk => by
            rcases Nat.lt_succ_iff_lt_or_eq.1 hk with h | rfl
            · exact HAB.out k h
            · exact HE.out, belowD HBB.out _⟩
          case measure => simp [intOf]; omega
      · obtain rfl : m = n := by have := HMN.out; omega
        have hX : Hid (x = -1) := by
          show x = -1
          rw [HX.out]
          rcases find_spec HM.out r with ⟨i, hi, _, hr⟩ | ⟨e, _⟩
          · exact absurd hr (HAB.out i (by have := HL.out; omega))
          · exact e
        clear hlt
        go_wp2_with fail
        go_ret
        exact ⟨by rw [hX.out]; first | done | rfl, belowT G1.out HBB.out⟩
end Go.Proofs.Ytnehebipikhejaa
end

section
namespace Go.Proofs.Ytnehebipikhejaa
open Go.RowKit

set_option maxRecDepth 100000 in
set_option maxHeartbeats 4000000 in
theorem refSame_ne (p q : Option Addr) (n m cl ck : Nat) (w : World) (hl : n ≠ m) :
    Calls Try.prog 16 #[.agg (tr ⟨⟨p, n, cl⟩⟩), .agg (tr ⟨⟨q, m, ck⟩⟩)] w fun e w' => e = .returned (.bool false) ∧ Below w.heap.size w w' := by
  have HB : Hid (Below w.heap.size w ((w.alloc (.cells (tr ⟨⟨p, n, cl⟩⟩) 24)).alloc (.cells (tr ⟨⟨q, m, ck⟩⟩) 24))) := belowT below1 below1
  have e1 : ((n : Int) == (m : Int)) = false := by simp; omega
  clear hl
  go_enter Try.func16, Try.ntmps16
  go_wp2_with fail
  go_ret
  exact ⟨rfl, HB.out⟩
set_option maxRecDepth 100000 in
set_option maxHeartbeats 4000000 in
theorem refSame_eq (p q : Option Addr) (n cl ck : Nat) (l k : List Nd) (w : World) (h : SlE Ene w (.slice p n cl) l) (h' : SlE Ene w (.slice q n ck) k) (hl : l.length = n) (hk : k.length = n) (hn : n ≤ 1000) :
    Calls Try.prog 16 #[.agg (tr ⟨⟨p, n, cl⟩⟩), .agg (tr ⟨⟨q, n, ck⟩⟩)] w fun e w' => e = .returned (.bool (decide (l = k))) ∧ Below w.heap.size w w' := by
  have HL := Lib.hid hl
  have HK := Lib.hid hk
  have HN := Lib.hid hn
  obtain ⟨r, hr⟩ : ∃ r, r = decide (l = k) := ⟨_, rfl⟩
  rw [← hr]
  have HR := Lib.hid hr
  obtain ⟨W0, hW0⟩ : ∃ W0, W0 = (w.alloc (.cells (tr ⟨⟨p, n, cl⟩⟩) 24)).alloc (.cells (tr ⟨⟨q, n, ck⟩⟩) 24) := ⟨_, rfl⟩
  have HB : Hid (Below w.heap.size w W0) := by rw [hW0]; exact belowT below1 below1
  have M0 : Hid (W0.heap[w.heap.size]? = some (.cells (tr ⟨⟨p, n, cl⟩⟩) 24 (0, 0))) := by rw [hW0]; exact blk_keep below1 (heap_alloc_last w _)
  have N0 : Hid (W0.heap[w.heap.size + 1]? = some (.cells (tr ⟨⟨q, n, ck⟩⟩) 24 (0, 0))) := by
    show W0.heap[w.heap.size + 1]? = _
    rw [hW0]
    have := heap_alloc_last (w.alloc (.cells (tr ⟨⟨p, n, cl⟩⟩) 24)) (.cells (tr ⟨⟨q, n, ck⟩⟩) 24 (0, 0))
    rwa [World.size_alloc] at this
  have HS := Lib.hid (slE_keep HB.out h)
  have HT := Lib.hid (slE_keep HB.out h')
  have HW := Lib.hid hW0
  clear h h' hl hk hn hr hW0
  go_enter Try.func16, Try.ntmps16
  go_wp2_with fail
  rw [← HW.out]
  go_loopw [5] (fun i wr => ∃ j : Nat, j ≤ n ∧ i = .int .i64 j ∧ (∀ x, x < j → nd l x = nd k x) ∧ Below W0.heap.size W0 wr) (fun i _ => n - (intOf i).toNat)
  case atStart => exact ⟨0, Nat.zero_le _, rfl, fun x hx => absurd hx (Nat.not_lt_zero _), Below.refl _ _⟩
  case round =>
    obtain ⟨j, hj, rfl, hx, hb⟩ := hrel
    have HX := Lib.hid hx
    have HBB := Lib.hid hb
    obtain ⟨z0, z1, zl⟩ := tr_cells (blk_keep hb M0.out)
    obtain ⟨z3, z4, zl2⟩ := tr_cells (blk_keep hb N0.out)
    dsimp only at z0 z3
    rw [sv_mk] at z0 z3
    clear hx hb
    by_cases hlt : j < n
    · have i0 : (0 : Int) ≤ (j : Int) := by omega
      have i1 : (j : Int) < (n : Int) := by omega
      have u1 : (j : Int) + 1 < 10000 := by have := HN.out; omega
      obtain ⟨b1, o1, c1, e1, _, q1, x1⟩ := slE_ne HS.out (by have := HL.out; omega)
      injection e1 with e2 _ e3
      subst e2 e3
      obtain ⟨b2, o2, c2, e1, _, q2, x2⟩ := slE_ne HT.out (by have := HK.out; omega)
      injection e1 with e2 _ e3
      subst e2 e3
      have y1 : ldA wr (.pointer (some ⟨b1, o1 + j * 35, none⟩)) 35 = some (ne (nd l j)) := keep HBB.out (nds_ld x1 (by have := HL.out; omega))
      have y2 : ldA wr (.pointer (some ⟨b2, o2 + j * 35, none⟩)) 35 = some (ne (nd k j)) := keep HBB.out (nds_ld x2 (by have := HK.out; omega))
      clear x1 x2 q1 q2
      by_cases he : nd l j = nd k j
      · have HE := Lib.hid he
        rw [he] at y1
        clear he
        go_wp2_with fail
        go_quiet (fail)
        go_wp2_with fail
        go_roundw
        case rel => exact ⟨j + 1, by omega, by go_num, fun x hx => by
          rcases Nat.lt_succ_iff_lt_or_eq.1 hx with h | rfl
          · exact HX.out x h
          · exact HE.out, belowD HBB.out _⟩
        case measure => simp [intOf]; omega
      · have hR : Hid (r = false) := by
          show r = false
          rw [HR.out, decide_eq_false_iff_not]
          intro e; exact he (by rw [e])
        have t1 : decide (nd l j = nd k j) = false := decide_eq_false he
        clear he
        go_wp2_with fail
        go_quiet (fail)
        go_wp2_with fail
        go_ret
        exact ⟨by rw [hR.out]; first | done | rfl, belowT HB.out (belowD HBB.out _)⟩
    · obtain rfl : j = n := by omega
      have hR : Hid (r = true) := by
        show r = true
        rw [HR.out, decide_eq_true_iff]
        exact nd_ext (by rw [HL.out, HK.out]) fun i hi => HX.out i (by have := HK.out; omega)
      go_wp2_with fail
      go_ret
      exact ⟨by rw [hR.out]; first | done | rfl, belowT HB.out HBB.out⟩
theorem refSame (s t : SlV) (l k : List Nd) (w : World) (h : SlE Ene w (sv s) l) (h' : SlE Ene w (sv t) k) (hn : l.length ≤ 1000) :
    Calls Try.prog 16 #[.agg (tr ⟨s⟩), .agg (tr ⟨t⟩)] w fun e w' => e = .returned (.bool (decide (l = k))) ∧ Below w.heap.size w w' := by
  have hs := sv_lenN h
  have ht := sv_lenN h'
  obtain ⟨p, n, cl⟩ := s
  obtain ⟨q, m, ck⟩ := t
  dsimp only at hs ht
  by_cases e : n = m
  · subst e
    exact refSame_eq p q n cl ck l k w h h' hs ht (by omega)
  · rw [decide_eq_false (fun he => e (by rw [← hs, ← ht, he]))]
    exact refSame_ne p q n m cl ck w e
end Go.Proofs.Ytnehebipikhejaa
end

section
namespace Go.Proofs.Ytnehebipikhejaa
open Go.RowKit

set_option maxRecDepth 100000 in
set_option maxHeartbeats 4000000 in
theorem refKids (s : SlV) (l : List Nd) (i : Int) (w : World) (h : SlE Ene w (sv s) l) (hn : l.length ≤ 1000) :
    Calls Try.prog 21 #[.agg (tr ⟨s⟩), .int .i64 i] w (IntsIs (kidsI l i) w) := by
  have HP := Lib.hid (fun W (g : Below w.heap.size w W) => refIs s l i W (slE_keep g h) hn)
  have HL := Lib.hid (sv_lenN h)
  obtain ⟨p, n, cp⟩ := s
  dsimp only at HL
  obtain ⟨a, ha⟩ : ∃ a, a = isT l i := ⟨_, rfl⟩
  rw [← ha] at HP
  obtain ⟨W0, hW0⟩ : ∃ W0, W0 = w.alloc (.cells (tr ⟨⟨p, n, cp⟩⟩) 24) := ⟨_, rfl⟩
  have HB : Hid (Below w.heap.size w W0) := by rw [hW0]; exact below1
  have M0 : Hid (W0.heap[w.heap.size]? = some (.cells (tr ⟨⟨p, n, cp⟩⟩) 24 (0, 0))) := by rw [hW0]; exact heap_alloc_last w _
  have HS := Lib.hid h
  have HW := Lib.hid hW0
  have HA := Lib.hid ha
  clear hW0 h ha hn
  cases a
  · have HE : Hid (kidsI l i = []) := kidsI_not HA.out.symm
    go_enter Try.func21, Try.ntmps21
    go_wp2_with fail
    rw [← HW.out]
    refine (HP.out W0 HB.out).mono ?_
    rintro e w1 ⟨rfl, g1⟩
    have G1 := Lib.hid (belowT HB.out g1)
    obtain ⟨z0, z1, zl⟩ := tr_cells (blk_keep g1 M0.out)
    dsimp only at z0
    rw [sv_mk] at z0
    clear g1
    go_wp2_with fail
    refine wp_loop_rounds 1 ?_
    rw [rounds_succ]
    by_cases hz : 0 < n
    · have t0 : decide ((0 : Int) < (n : Int)) = true := by rw [decide_eq_true_iff]; omega
      have t0' : decide (0 < n) = true := decide_eq_true hz
      clear hz
      go_wp2_with fail
      go_ret
      exact ⟨_, rfl, by rw [HE.out]; exact ownE_nil _ _ _, G1.out⟩
    · obtain rfl : n = 0 := by omega
      clear hz
      go_wp2_with fail
      go_ret
      exact ⟨_, rfl, by rw [HE.out]; exact ownE_nil _ _ _, G1.out⟩
  · obtain ⟨hm, hi0, hi1⟩ := isT_iff.1 HA.out.symm
    obtain ⟨i', rfl⟩ : ∃ i' : Nat, i = i' := ⟨i.toNat, by omega⟩
    have HE : Hid (kidsI l (i' : Int) = kidsUp l i' n) := by show _ = _; rw [kidsI_nat hm (by omega), HL.out]
    have HN : Hid (n ≤ 12) := by show n ≤ 12; have := hm.le; have := HL.out; omega
    obtain ⟨b1, o1, rfl, q1, x1⟩ := slE_ptr HS.out hm.pos
    clear hi0 hi1 HA hm
    go_enter Try.func21, Try.ntmps21
    go_wp2_with fail
    rw [← HW.out]
    refine (HP.out W0 HB.out).mono ?_
    rintro e w1 ⟨rfl, g1⟩
    have G1 := Lib.hid (belowT HB.out g1)
    have M1 := Lib.hid (blk_keep g1 M0.out)
    have X1 := Lib.hid (keepR G1.out x1)
    clear g1 x1 q1
    go_wp2_with fail
    go_loopw [5, 7] (fun v i wr => ∃ j : Nat, j ≤ n ∧ i = .int .i64 (j : Int) ∧ OwnE Eint wr w1.heap.size v (kidsUp l i' j) ∧ Below w1.heap.size w1 wr) (fun _ i _ => n - (intOf i).toNat)
    case atStart => exact ⟨0, Nat.zero_le _, rfl, ownE_nil _ _ _, Below.refl _ _⟩
    case round =>
      obtain ⟨j, hj, rfl, hown, hb⟩ := hrel
      have HO := Lib.hid hown
      have HBB := Lib.hid hb
      obtain ⟨z0, z1, zl⟩ := tr_cells (blk_keep hb M1.out)
      dsimp only at z0
      rw [sv_mk] at z0
      clear hown hb
      by_cases hlt : j < n
      · have i0 : (0 : Int) ≤ (j : Int) := by omega
        have i1 : (j : Int) < (n : Int) := by omega
        have u1 : (j : Int) + 1 < 10000 := by have := HN.out; omega
        have y1 := nds_par (keepR HBB.out X1.out) (i := j) (by have := HL.out; omega)
        obtain ⟨x, hx⟩ : ∃ x, x = (nd l j).parent := ⟨_, rfl⟩
        rw [← hx] at y1
        have HXx := Lib.hid hx
        clear hx
        by_cases he : x = (i' : Int)
        · have t1 : (x == (i' : Int)) = true := by simpa using he
          have HE2 : Hid (kidsUp l i' (j + 1) = kidsUp l i' j ++ [(j : Int)]) := kidsUp_yes (by rw [← HXx.out]; exact he)
          have HLn := Lib.hid (kidsUp_len l i' j)
          clear he
          go_wp2_with (at_builtin; refine wpList_append_E Kint _ rfl (.tmp 29) (.tmp 31) rfl w1.heap.size _ (kidsUp l i' j) rfl (ownE_alloc HO.out _) _ [(j : Int)] rfl (slE_lit _ [(j : Int)] 1 _ _ _ rfl (by simp) rfl) (by have := HLn.out; have := HN.out; simp; omega) (by have := HBB.out.size; simp; omega) ?_; intro v2 w2 ho2 hg2)
          go_roundw
          case rel => exact ⟨j + 1, by omega, by go_num, by rw [HE2.out]; exact ho2, (belowT HBB.out below1).trans (hg2.own (ownE_alloc HO.out _) (by have := HBB.out.size; simp; omega))⟩
          case measure => simp [intOf]; omega
        · have t1 : (x == (i' : Int)) = false := by simpa using he
          have HE2 : Hid (kidsUp l i' (j + 1) = kidsUp l i' j) := kidsUp_no (by rw [← HXx.out]; exact he)
          clear he
          go_wp2_with fail
          go_roundw
          case rel => exact ⟨j + 1, by omega, by go_num, by rw [HE2.out]; exact HO.out, HBB.out⟩
          case measure => simp [intOf]; omega
      · obtain rfl : j = n := by omega
        clear hlt
        go_wp2_with fail
        go_ret
        exact ⟨_, rfl, by rw [HE.out]; exact ownE_base HO.out G1.out.size, belowT G1.out HBB.out⟩
end Go.Proofs.Ytnehebipikhejaa
end

section
namespace Go.Proofs.Ytnehebipikhejaa
open Go.RowKit

set_option maxRecDepth 100000 in
set_option maxHeartbeats 4000000 in
theorem refNew (r : Rt) (q : UInt64) (w : World) :
    Calls Try.prog 15 #[.agg (rc r), .int .u64 (q.toNat : Int)] w (TreeOk (newL r q) (newOk q) w) := by
  by_cases hq : q.toNat ≤ 1099511627776
  · have e : newOk q = true := decide_eq_true hq
    have HL : Hid (newL r q = [newN r q]) := by unfold newL; rw [e, if_pos rfl]; exact Lib.hid rfl
    rw [e]
    have t1 : decide ((1099511627776 : Int) < (q.toNat : Int)) = false := by rw [decide_eq_false_iff_not]; omega
    have t1' : decide (1099511627776 < q.toNat) = false := by rw [decide_eq_false_iff_not]; omega
    clear hq e
    go_enter Try.func15, Try.ntmps15
    go_wp2_with fail
    exact bodyPost_ret (v := .tuple #[.agg (tr ⟨⟨some ⟨w.heap.size + 1 + 1, 0, none⟩, 1, 1⟩⟩), .bool true]) (results_agg2 Try.isAgg24 Try.sizeOf24 _ 4 5 rfl _ _ _ _ _ rfl rfl (by go_simp)) rfl ⟨⟨some ⟨w.heap.size + 1 + 1, 0, none⟩, 1, 1⟩, rfl, by rw [HL.out]; exact slE_lit _ [newN r q] 1 _ _ _ rfl (by simp) (by simp [cellsE, Ene, ne_list, newN, zne]), belowT (belowT below1 below1) below1⟩
  · have e : newOk q = false := decide_eq_false hq
    have HL : Hid (newL r q = []) := by unfold newL; rw [e, if_neg Bool.false_ne_true]; exact Lib.hid rfl
    rw [e]
    have t1 : decide ((1099511627776 : Int) < (q.toNat : Int)) = true := by rw [decide_eq_true_iff]; omega
    have t1' : decide (1099511627776 < q.toNat) = true := by rw [decide_eq_true_iff]; omega
    clear hq e
    go_enter Try.func15, Try.ntmps15
    go_wp2_with fail
    exact bodyPost_ret (v := .tuple #[.agg (tr ⟨⟨none, 0, 0⟩⟩), .bool false]) (results_agg2 Try.isAgg24 Try.sizeOf24 _ 4 5 rfl _ _ _ _ _ rfl rfl (by go_simp; rfl)) rfl ⟨⟨none, 0, 0⟩, rfl, by rw [HL.out]; exact slE_nil _ _ _ _, belowT below1 below1⟩
end Go.Proofs.Ytnehebipikhejaa
end

section
namespace Go.Proofs.Ytnehebipikhejaa
open Go.RowKit

theorem bk_cells' {w : World} {g : Nat} {x : Bk} (h : w.heap[g]? = some (.cells (bk x) 29 (0, 0))) : ldA w (.pointer (some ⟨g, 0, none⟩)) 32 = some (rc x.root) ∧ ldA w (.pointer (some ⟨g, 32, none⟩)) 32 = some (rc x.parent) ∧ w.cell? ⟨g, 64, none⟩ = some (.int .u64 (x.slot.toNat : Int)) ∧ w.cell? ⟨g, 65, none⟩ = some (.int .u64 (x.just.toNat : Int)) ∧ g < w.heap.size :=
  ⟨bk_rd0_root h, bk_rd0_parent h, bk_rd0_slot h, bk_rd0_just h, (Array.getElem?_eq_some_iff.1 h).1⟩

set_option maxRecDepth 100000 in
set_option maxHeartbeats 8000000 in
theorem refInsert_no (p : Option Addr) (n cp : Nat) (l : List Nd) (x : Bk) (w : World) (h : SlE Ene w (.slice p n cp) l) (hl : l.length = n) (hn : n ≤ 1000) (hm : ¬ MayT l) :
    Calls Try.prog 13 #[.agg (tr ⟨⟨p, n, cp⟩⟩), .agg (bk x)] w (TreeEr l 1 w) := by
  have HM := Lib.hid (fun W (g : Below w.heap.size w W) => refMayT ⟨p, n, cp⟩ l W (slE_keep g h) (by omega))
  rw [decide_eq_false hm] at HM
  have HS := Lib.hid h
  obtain ⟨W0, hW0⟩ : ∃ W0, W0 = ((w.alloc (.cells (tr ⟨⟨p, n, cp⟩⟩) 24)).alloc (.cells (bk x) 29)).alloc (.cells (tr ztr) 24) := ⟨_, rfl⟩
  obtain ⟨hB, h0, h1, h2, hz⟩ := heap3 w _ _ _ _ _ _ W0 hW0
  have HB := Lib.hid hB
  have H0 := Lib.hid h0
  have H2 := Lib.hid h2
  have HW := Lib.hid hW0
  clear h hl hn hW0 hB h0 h1 h2 hz hm
  go_enter Try.func13, Try.ntmps13
  go_wp2_with fail
  rw [← HW.out]
  refine (HM.out W0 HB.out).mono ?_
  rintro e w1 ⟨rfl, g1⟩
  have G1 := Lib.hid (belowT HB.out g1)
  have N2 := Lib.hid (blk_keep g1 H2.out)
  have z1 := ldA_block (blk_keep g1 H0.out) (tr_size _)
  have z2 := wrA_block N2.out (tr_size _)
  clear g1
  go_wp2_with fail
  exact bodyPost_ret (results_agg2 Try.isAgg24 Try.sizeOf24 _ 4 5 rfl _ _ _ _ _ rfl rfl (put_whole' N2.out (tr_size _) (tr_size _))) rfl ⟨⟨p, n, cp⟩, rfl, slE_block HS.out (by rw [size_stA]; exact G1.out.size) (fun k hk _ => by
    rw [heap_stA (by omega)]; exact G1.out.block _ hk), below_stA G1.out (by omega)⟩

set_option maxRecDepth 100000 in
set_option maxHeartbeats 8000000 in
theorem refInsert_yes (b1 o1 n cp : Nat) (l : List Nd) (x : Bk) (w : World) (h : SlE Ene w (.slice (some ⟨b1, o1, none⟩) n cp) l) (hx1 : w.rangeAt b1 o1 (cellsE Ene l)) (hl : l.length = n) (hm : MayT l) :
    Calls Try.prog 13 #[.agg (tr ⟨⟨some ⟨b1, o1, none⟩, n, cp⟩⟩), .agg (bk x)] w (TreeEr (insL l x.root x.parent x.slot x.just) (insE l x.root x.parent x.slot) w) := by
  have HN : Hid (n ≤ 12) := by show n ≤ 12; have := hm.le; omega
  have hn1 : l.length ≤ 1000 := by have := hm.le; omega
  have HM : Hid (∀ W, Below w.heap.size w W → Calls Try.prog 22 #[.agg (tr ⟨⟨some ⟨b1, o1, none⟩, n, cp⟩⟩)] W fun e w' => e = .returned (.bool true) ∧ Below W.heap.size W w') := fun W g => by
    have := refMayT ⟨some ⟨b1, o1, none⟩, n, cp⟩ l W (slE_keep g h) hn1
    rwa [decide_eq_true hm] at this
  have HF := Lib.hid (fun W (g : Below w.heap.size w W) => refFind ⟨some ⟨b1, o1, none⟩, n, cp⟩ l x.root W (slE_keep g h) hn1)
  have HP := Lib.hid (fun W (g : Below w.heap.size w W) => refFind ⟨some ⟨b1, o1, none⟩, n, cp⟩ l x.parent W (slE_keep g h) hn1)
  obtain ⟨y, hyy⟩ : ∃ y, y = insE l x.root x.parent x.slot := ⟨_, rfl⟩
  rw [← hyy]
  have hy := hyy
  unfold insE at hy
  rw [if_neg (Classical.not_not.2 hm)] at hy
  have HYY := Lib.hid hyy
  have HY := Lib.hid hy
  obtain ⟨f1, hf1⟩ : ∃ f, f = findT l x.root := ⟨_, rfl⟩
  obtain ⟨f2, hf2⟩ : ∃ f, f = findT l x.parent := ⟨_, rfl⟩
  rw [← hf1] at HF
  rw [← hf2] at HP
  have HF1 := Lib.hid hf1
  have HF2 := Lib.hid hf2
  have HS := Lib.hid h
  have HX1 := Lib.hid hx1
  have HL := Lib.hid hl
  have HMl := Lib.hid hm
  obtain ⟨W0, hW0⟩ : ∃ W0, W0 = ((w.alloc (.cells (tr ⟨⟨some ⟨b1, o1, none⟩, n, cp⟩⟩) 24)).alloc (.cells (bk x) 29)).alloc (.cells (tr ztr) 24) := ⟨_, rfl⟩
  obtain ⟨hB, h0, h1, h2, hz⟩ := heap3 w _ _ _ _ _ _ W0 hW0
  have HB := Lib.hid hB
  have H0 := Lib.hid h0
  have H1 := Lib.hid h1
  have H2 := Lib.hid h2
  have HZ := Lib.hid hz
  have HW := Lib.hid hW0
  clear h hx1 hl hm hn1 hW0 hB h0 h1 h2 hz hyy hy hf1 hf2
  go_enter Try.func13, Try.ntmps13
  go_wp2_with fail
  rw [← HW.out]
  refine (HM.out W0 HB.out).mono ?_
  rintro e w1 ⟨rfl, g1⟩
  have G1 := Lib.hid (belowT HB.out g1)
  have G1' := Lib.hid g1
  have z1 := ldA_block (blk_keep g1 H0.out) (tr_size _)
  obtain ⟨k0, _, _, _, k4⟩ := bk_cells' (blk_keep g1 H1.out)
  clear g1
  go_wp2_with fail
  refine (HF.out w1 G1.out).mono ?_
  rintro e w2 ⟨rfl, g2⟩
  have G2 := Lib.hid (belowT G1.out g2)
  have G2' := Lib.hid (belowT G1'.out g2)
  have N2 := Lib.hid (blk_keep (belowT G1'.out g2) H2.out)
  clear z1 k0 k4 g2
  have z1 := ldA_block (blk_keep G2'.out H0.out) (tr_size _)
  have z2 := wrA_block N2.out (tr_size _)
  obtain ⟨_, k1, _, _, k4⟩ := bk_cells' (blk_keep G2'.out H1.out)
  by_cases c1 : 0 ≤ f1
  · have t1 : decide (0 ≤ f1) = true := decide_eq_true c1
    have HR : Hid (y = 4) := by show y = 4; rw [HY.out, ← HF1.out, if_pos c1]
    have HRL : Hid (insL l x.root x.parent x.slot x.just = l) := by show _ = _; unfold insL; rw [← HYY.out, HR.out, if_neg (by decide)]
    clear c1
    go_wp2_with fail
    exact bodyPost_ret (results_agg2 Try.isAgg24 Try.sizeOf24 _ 4 5 rfl _ _ _ _ _ rfl rfl (put_whole' N2.out (tr_size _) (tr_size _))) rfl ⟨⟨some ⟨b1, o1, none⟩, n, cp⟩, by rw [HR.out]; first | done | rfl, by rw [HRL.out]; exact slE_block HS.out (by rw [size_stA]; exact (G2.out).size) (fun k hk _ => by
      rw [heap_stA (by omega)]; exact (G2.out).block _ hk), below_stA (G2.out) (by omega)⟩
  · have t1 : decide (0 ≤ f1) = false := decide_eq_false c1
    have C1 := Lib.hid c1
    clear c1
    go_wp2_with fail
    refine (HP.out w2 G2.out).mono ?_
    rintro e w3 ⟨rfl, g3⟩
    have G3 := Lib.hid (belowT G2.out g3)
    have G3' := Lib.hid (belowT G2'.out g3)
    have N3 := Lib.hid (blk_keep g3 N2.out)
    clear z1 z2 k1 k4 g3
    have z1 := ldA_block (blk_keep G3'.out H0.out) (tr_size _)
    have z2 := wrA_block N3.out (tr_size _)
    obtain ⟨z0, _, _⟩ := tr_cells (blk_keep G3'.out H0.out)
    dsimp only at z0
    rw [sv_mk] at z0
    obtain ⟨k0, _, k2, k3, k4⟩ := bk_cells' (blk_keep G3'.out H1.out)
    by_cases c2 : f2 < 0
    · have t2 : decide (f2 < 0) = true := decide_eq_true c2
      have HR : Hid (y = 5) := by show y = 5; rw [HY.out, ← HF1.out, ← HF2.out, if_neg (by have := C1.out; omega), if_pos c2]
      have HRL : Hid (insL l x.root x.parent x.slot x.just = l) := by show _ = _; unfold insL; rw [← HYY.out, HR.out, if_neg (by decide)]
      clear c2
      go_wp2_with fail
      exact bodyPost_ret (results_agg2 Try.isAgg24 Try.sizeOf24 _ 4 5 rfl _ _ _ _ _ rfl rfl (put_whole' N3.out (tr_size _) (tr_size _))) rfl ⟨⟨some ⟨b1, o1, none⟩, n, cp⟩, by rw [HR.out]; first | done | rfl, by rw [HRL.out]; exact slE_block HS.out (by rw [size_stA]; exact (G3.out).size) (fun k hk _ => by
        rw [heap_stA (by omega)]; exact (G3.out).block _ hk), below_stA (G3.out) (by omega)⟩
    · obtain ⟨q, rfl⟩ : ∃ q : Nat, f2 = q := ⟨f2.toNat, by omega⟩
      have hqn : q < n := by
        rcases find_spec HMl.out x.parent with ⟨i, hi, e, _⟩ | ⟨e, _⟩
        · have := HL.out; have := HF2.out; omega
        · have := HF2.out; omega
      have HY0 : Hid (y = if x.slot.toNat ≤ sl l q ∨ 1099511627776 < x.slot.toNat then 6 else if n = 12 then 3 else 0) := by
        show y = _
        rw [HY.out, ← HF1.out, ← HF2.out, if_neg (by have := C1.out; omega), if_neg (by omega), Int.toNat_natCast, HL.out]
      have v0 := nds_slot (keepR G3.out HX1.out) (i := q) (by have := HL.out; omega)
      have i1 : (q : Int) < (n : Int) := by omega
      have i0 : (0 : Int) ≤ (q : Int) := by omega
      have t2 : decide ((q : Int) < 0) = false := by rw [decide_eq_false_iff_not]; omega
      clear c2 hqn
      by_cases h1 : x.slot.toNat ≤ sl l q
      · have t3 : decide (x.slot.toNat ≤ (nd l q).slot.toNat) = true := decide_eq_true h1
        have t3' : decide ((x.slot.toNat : Int) ≤ ((nd l q).slot.toNat : Int)) = true := by rw [decide_eq_true_iff]; unfold sl at h1; omega
        have HR : Hid (y = 6) := by show y = 6; rw [HY0.out, if_pos (.inl h1)]
        have HRL : Hid (insL l x.root x.parent x.slot x.just = l) := by show _ = _; unfold insL; rw [← HYY.out, HR.out, if_neg (by decide)]
        clear h1
        go_wp2_with fail
        go_quiet (fail)
        have B4 := Lib.hid (belowD G3.out nq)
        have N4 : Hid ((w3.drewN nq).heap[w.heap.size + 2]? = some (.cells (tr ztr) 24 (0, 0))) := N3.out
        have M3 := blk_keep G3'.out H0.out
        have K3 := blk_keep G3'.out H1.out
        have M4 : Hid ((w3.drewN nq).heap[w.heap.size]? = some (.cells (tr ⟨⟨some ⟨b1, o1, none⟩, n, cp⟩⟩) 24 (0, 0))) := M3
        have K4 : Hid ((w3.drewN nq).heap[w.heap.size + 1]? = some (.cells (bk x) 29 (0, 0))) := K3
        clear z0 z1 z2 k0 k2 k3 k4 v0 M3 K3
        generalize w3.drewN nq = w4 at *
        have z1 := ldA_block M4.out (tr_size _)
        have z2 := wrA_block N4.out (tr_size _)
        obtain ⟨z0, _, _⟩ := tr_cells M4.out
        dsimp only at z0
        rw [sv_mk] at z0
        go_wp2_with fail
        exact bodyPost_ret (results_agg2 Try.isAgg24 Try.sizeOf24 _ 4 5 rfl _ _ _ _ _ rfl rfl (put_whole' N4.out (tr_size _) (tr_size _))) rfl ⟨⟨some ⟨b1, o1, none⟩, n, cp⟩, by rw [HR.out]; first | done | rfl, by rw [HRL.out]; exact slE_block HS.out (by rw [size_stA]; exact (B4.out).size) (fun k hk _ => by
          rw [heap_stA (by omega)]; exact (B4.out).block _ hk), below_stA (B4.out) (by omega)⟩
      · have t3 : decide (x.slot.toNat ≤ (nd l q).slot.toNat) = false := decide_eq_false h1
        have t3' : decide ((x.slot.toNat : Int) ≤ ((nd l q).slot.toNat : Int)) = false := by rw [decide_eq_false_iff_not]; unfold sl at h1; omega
        by_cases h2 : 1099511627776 < x.slot.toNat
        · have t4 : decide (1099511627776 < x.slot.toNat) = true := decide_eq_true h2
          have t4' : decide ((1099511627776 : Int) < (x.slot.toNat : Int)) = true := by rw [decide_eq_true_iff]; omega
          have HR : Hid (y = 6) := by show y = 6; rw [HY0.out, if_pos (.inr h2)]
          have HRL : Hid (insL l x.root x.parent x.slot x.just = l) := by show _ = _; unfold insL; rw [← HYY.out, HR.out, if_neg (by decide)]
          clear h1 h2
          go_wp2_with fail
          go_quiet (fail)
          have B4 := Lib.hid (belowD G3.out nq)
          have N4 : Hid ((w3.drewN nq).heap[w.heap.size + 2]? = some (.cells (tr ztr) 24 (0, 0))) := N3.out
          have M3 := blk_keep G3'.out H0.out
          have K3 := blk_keep G3'.out H1.out
          have M4 : Hid ((w3.drewN nq).heap[w.heap.size]? = some (.cells (tr ⟨⟨some ⟨b1, o1, none⟩, n, cp⟩⟩) 24 (0, 0))) := M3
          have K4 : Hid ((w3.drewN nq).heap[w.heap.size + 1]? = some (.cells (bk x) 29 (0, 0))) := K3
          clear z0 z1 z2 k0 k2 k3 k4 v0 M3 K3
          generalize w3.drewN nq = w4 at *
          have z1 := ldA_block M4.out (tr_size _)
          have z2 := wrA_block N4.out (tr_size _)
          obtain ⟨z0, _, _⟩ := tr_cells M4.out
          dsimp only at z0
          rw [sv_mk] at z0
          go_wp2_with fail
          exact bodyPost_ret (results_agg2 Try.isAgg24 Try.sizeOf24 _ 4 5 rfl _ _ _ _ _ rfl rfl (put_whole' N4.out (tr_size _) (tr_size _))) rfl ⟨⟨some ⟨b1, o1, none⟩, n, cp⟩, by rw [HR.out]; first | done | rfl, by rw [HRL.out]; exact slE_block HS.out (by rw [size_stA]; exact (B4.out).size) (fun k hk _ => by
            rw [heap_stA (by omega)]; exact (B4.out).block _ hk), below_stA (B4.out) (by omega)⟩
        · have t4 : decide (1099511627776 < x.slot.toNat) = false := decide_eq_false h2
          have t4' : decide ((1099511627776 : Int) < (x.slot.toNat : Int)) = false := by rw [decide_eq_false_iff_not]; omega
          have HY1 : Hid (y = if n = 12 then 3 else 0) := by show y = _; rw [HY0.out, if_neg (by omega)]
          clear h1 h2
          by_cases h3 : n = 12
          · subst h3
            have HR : Hid (y = 3) := by show y = 3; rw [HY1.out, if_pos rfl]
            have HRL : Hid (insL l x.root x.parent x.slot x.just = l) := by show _ = _; unfold insL; rw [← HYY.out, HR.out, if_neg (by decide)]
            go_wp2_with fail
            go_quiet (fail)
            have B4 := Lib.hid (belowD G3.out nq)
            have N4 : Hid ((w3.drewN nq).heap[w.heap.size + 2]? = some (.cells (tr ztr) 24 (0, 0))) := N3.out
            have M3 := blk_keep G3'.out H0.out
            have K3 := blk_keep G3'.out H1.out
            have M4 : Hid ((w3.drewN nq).heap[w.heap.size]? = some (.cells (tr ⟨⟨some ⟨b1, o1, none⟩, 12, cp⟩⟩) 24 (0, 0))) := M3
            have K4 : Hid ((w3.drewN nq).heap[w.heap.size + 1]? = some (.cells (bk x) 29 (0, 0))) := K3
            clear z0 z1 z2 k0 k2 k3 k4 v0 M3 K3
            generalize w3.drewN nq = w4 at *
            have z1 := ldA_block M4.out (tr_size _)
            have z2 := wrA_block N4.out (tr_size _)
            obtain ⟨z0, _, _⟩ := tr_cells M4.out
            dsimp only at z0
            rw [sv_mk] at z0
            go_wp2_with fail
            exact bodyPost_ret (results_agg2 Try.isAgg24 Try.sizeOf24 _ 4 5 rfl _ _ _ _ _ rfl rfl (put_whole' N4.out (tr_size _) (tr_size _))) rfl ⟨⟨some ⟨b1, o1, none⟩, 12, cp⟩, by rw [HR.out]; first | done | rfl, by rw [HRL.out]; exact slE_block HS.out (by rw [size_stA]; exact (B4.out).size) (fun k hk _ => by
              rw [heap_stA (by omega)]; exact (B4.out).block _ hk), below_stA (B4.out) (by omega)⟩
          · have t5 : ((n : Int) == 12) = false := by simp; omega
            have t5' : decide (n = 12) = false := decide_eq_false h3
            have HR : Hid (y = 0) := by show y = 0; rw [HY1.out, if_neg h3]
            obtain ⟨m, hm⟩ : ∃ m, m = insN l x.root x.parent x.slot x.just := ⟨_, rfl⟩
            have HRL : Hid (insL l x.root x.parent x.slot x.just = l ++ [m]) := by show _ = _; unfold insL; rw [← HYY.out, HR.out, if_pos rfl, hm]
            have HMN : Hid (m = ⟨x.root, (q : Int), x.slot, x.just⟩) := by show m = _; rw [hm, HF2.out]; rfl
            clear h3 hm
            go_wp2_with fail
            go_quiet (fail)
            have B4 := Lib.hid (belowD G3.out nq)
            have N4 : Hid ((w3.drewN nq).heap[w.heap.size + 2]? = some (.cells (tr ztr) 24 (0, 0))) := N3.out
            have M3 := blk_keep G3'.out H0.out
            have K3 := blk_keep G3'.out H1.out
            have M4 : Hid ((w3.drewN nq).heap[w.heap.size]? = some (.cells (tr ⟨⟨some ⟨b1, o1, none⟩, n, cp⟩⟩) 24 (0, 0))) := M3
            have K4 : Hid ((w3.drewN nq).heap[w.heap.size + 1]? = some (.cells (bk x) 29 (0, 0))) := K3
            clear z0 z1 z2 k0 k2 k3 k4 v0 M3 K3
            generalize w3.drewN nq = w4 at *
            have z1 := ldA_block M4.out (tr_size _)
            have z2 := wrA_block N4.out (tr_size _)
            obtain ⟨z0, _, _⟩ := tr_cells M4.out
            dsimp only at z0
            rw [sv_mk] at z0
            go_wp2_with fail
            clear z0 z1 z2
            have hwB : w.heap.size ≤ w4.heap.size := B4.out.size
            have Q0 := wd_cell (tr_cells M4.out).1
            dsimp only at Q0
            rw [sv_mk] at Q0
            obtain ⟨k0, _, k2, k3, _⟩ := bk_cells' K4.out
            have Q2 := wd_ld k0
            have Q4 := wd_cell k2
            have Q5 := wd_cell k3
            have S4 := Lib.hid (slE_keep B4.out HS.out)
            clear k0 k2 k3
            refine wp_region_G w.heap.size [1, 4, 7, 9] [2, 11, 12, 14] (by kernel_rfl) ?_
            refine GX.take2 0 rfl rfl rfl (by kernel_rfl) (by kernel_rfl) (by kernel_rfl) rfl hwB ?_
            (first | go_big_quiet_step (fail) | quiet_step (fail)); refine wpQuiet_nil ?_
            refine GX.take1 1 rfl rfl rfl (by kernel_rfl) (by kernel_rfl) (by kernel_rfl) rfl hwB ?_
            (first | go_big_quiet_step (fail) | quiet_step (fail)); refine wpQuiet_nil ?_
            refine GX.take2 3 rfl rfl rfl (by kernel_rfl) (by kernel_rfl) (by kernel_rfl) rfl hwB ?_
            (first | go_big_quiet_step (fail) | quiet_step (fail)); refine wpQuiet_nil ?_
            refine GX.take1 4 rfl rfl rfl (by kernel_rfl) (by kernel_rfl) (by kernel_rfl) rfl hwB ?_
            (first | go_big_quiet_step (fail) | quiet_step (fail)); refine wpQuiet_nil ?_
            refine GX.take2 5 rfl rfl rfl (by kernel_rfl) (by kernel_rfl) (by kernel_rfl) rfl hwB ?_
            (first | go_big_quiet_step (fail) | quiet_step (fail)); refine wpQuiet_nil ?_
            refine GX.take2 6 rfl rfl rfl (by kernel_rfl) (by kernel_rfl) (by kernel_rfl) rfl hwB ?_
            (first | go_big_quiet_step (fail) | quiet_step (fail)); refine wpQuiet_nil ?_
            refine GX.take1 7 rfl rfl rfl (by kernel_rfl) (by kernel_rfl) (by kernel_rfl) rfl hwB ?_
            (first | go_big_quiet_step (fail) | quiet_step (fail)); refine wpQuiet_nil ?_
            refine GX.take2 8 rfl rfl rfl (by kernel_rfl) (by kernel_rfl) (by kernel_rfl) rfl hwB ?_
            (first | go_big_quiet_step (fail) | quiet_step (fail)); refine wpQuiet_nil ?_
            refine GX.take1 9 rfl rfl rfl (by kernel_rfl) (by kernel_rfl) (by kernel_rfl) rfl hwB ?_
            (first | go_big_quiet_step (fail) | quiet_step (fail)); refine wpQuiet_nil ?_
            refine GX.take2 10 rfl rfl rfl (by kernel_rfl) (by kernel_rfl) (by kernel_rfl) rfl hwB ?_
            (first | go_big_quiet_step (fail) | quiet_step (fail)); refine wpQuiet_nil ?_
            refine GX.branch2 2 11 (by kernel_rfl) ?_ ?_
            · refine xOp_append KneB rfl rfl rfl (.const (.slice none 0 0)) (.tmp 47) rfl w4.heap.size _ [] rfl (ownE_nil _ _ _) _ l rfl S4.out (by have := HL.out; have := HN.out; simp [maxLen]; omega) (by have := HL.out; have := HN.out; simp; omega) (Nat.le_refl _) (fun w' hb => relE_lq hb) ?_
              intro v5 w5 o5 g5
              simp only [Act.put, List.setIfInBounds_toArray, List.set_cons_zero, List.set_cons_succ]
              obtain ⟨p5, c5, rfl⟩ := ownE_len o5 HL.out
              have D5 : Below w4.heap.size w4 w5 := (belowD (Below.refl _ _) 1).trans g5.nil
              refine GX.branch1 11 (by kernel_rfl) ?_
              refine xOp_eff rfl rfl rfl (.slice (some ⟨w5.heap.size, 0, none⟩) 1 1) (w5.alloc (.cells (ne m) 47)) (by rw [HMN.out]; go_simp) (relE_lq below1) ?_
              simp only [Act.put, List.setIfInBounds_toArray, List.set_cons_zero, List.set_cons_succ]
              have E6 := Lib.hid (ownE_alloc (o := .cells (ne m) 47) o5)
              have F6 : Hid (SlE Ene (w5.alloc (.cells (ne m) 47)) (.slice (some ⟨w5.heap.size, 0, none⟩) 1 1) [m]) := slE_lit _ [m] 1 _ _ _ rfl rfl (by simp [cellsE, Ene, ne_list])
              have D6 : Hid (Below w4.heap.size w4 (w5.alloc (.cells (ne m) 47))) := belowT D5 below1
              clear o5 g5 D5
              refine GX.branch1 12 (by kernel_rfl) ?_
              refine xOp_append KneB rfl rfl rfl (.tmp 48) (.tmp 57) rfl w4.heap.size _ l rfl E6.out _ [m] rfl F6.out (by have := HL.out; have := HN.out; simp [maxLen]; omega) (by have := HL.out; have := HN.out; simp; omega) D6.out.size (fun w' hb => relE_tail (by kernel_rfl) (hb.mono hwB)) ?_
              intro v7 w7 o7 g7
              simp only [Act.put, List.setIfInBounds_toArray, List.set_cons_zero, List.set_cons_succ]
              have D7 : Below w4.heap.size w4 w7 := D6.out.trans (g7.own E6.out D6.out.size)
              have B7 := Lib.hid (belowT B4.out D7)
              have M7 := blk_keep D7 M4.out
              have N7 := Lib.hid (blk_keep D7 N4.out)
              obtain ⟨p7, c7, rfl⟩ := ownE_len o7 (n := n + 1) (by rw [List.length_append, HL.out]; rfl)
              have O7 := Lib.hid o7
              have c0 : w7.cell? ⟨w.heap.size, 0, none⟩ = some (.slice (some ⟨b1, o1, none⟩) n cp) ∧ w7.frozen? ⟨w.heap.size, 0, none⟩ = false := ⟨by have := (tr_cells M7).1; dsimp only at this; rw [sv_mk] at this; exact this, frozen_of_row _ _ _ _ _ M7⟩
              obtain ⟨c0, c1'⟩ := c0
              obtain ⟨W8, hW8⟩ : ∃ W8, W8 = w7.setCell ⟨w.heap.size, 0, none⟩ (.slice p7 (n + 1) c7) := ⟨_, rfl⟩
              have M8 : Hid (W8.heap[w.heap.size]? = some (.cells (tr ⟨⟨p7, n + 1, c7⟩⟩) 24 (0, 0))) := by
                have := heap_setCell_same M7 0 (.slice p7 (n + 1) c7)
                rw [hW8]
                rwa [tr_sets_n] at this
              have N8 : Hid (W8.heap[w.heap.size + 2]? = some (.cells (tr ztr) 24 (0, 0))) := by
                rw [hW8, Below.heap_setCell _ _ _ _ (show w.heap.size + 2 ≠ w.heap.size by omega)]; exact N7.out
              have B8 : Hid (Below w.heap.size w W8) := by rw [hW8]; exact B7.out.setCell (p := ⟨w.heap.size, 0, none⟩) (Nat.le_refl _) _
              have HF8 : Hid (∀ b, (Value.slice p7 (n + 1) c7).ownBlock = some b → w.heap.size + 3 ≤ b) := fun b hb => by have := (ownE_lt O7.out hb).1; have := (Array.getElem?_eq_some_iff.1 N4.out).1; omega
              have S8 : Hid (SlE Ene W8 (.slice p7 (n + 1) c7) (l ++ [m])) := by rw [hW8]; exact slE_set' (ownE_slE O7.out) (fun e => by have := HF8.out _ e; omega)
              have HW8 := Lib.hid hW8
              clear hW8 o7 g7 M7 D7
              refine GX.take2 13 rfl rfl rfl (by kernel_rfl) (by kernel_rfl) (by kernel_rfl) rfl hwB ?_
              (first | go_big_quiet_step (fail) | quiet_step (fail)); refine wpQuiet_nil ?_
              refine GX.branch1 14 (by kernel_rfl) ?_
              refine xOp_store rfl rfl rfl W8 (by rw [HW8.out]; go_simp) (relE_tail (by kernel_rfl) (by rw [HW8.out]; exact (Below.refl _ _).setCell (p := ⟨w.heap.size, 0, none⟩) (Nat.le_refl _) _)) ?_
              simp only [Act.put]
              refine GX.nil (by kernel_rfl) ?_
              have f0 := ldA_block M8.out (tr_size _)
              have f1 := wrA_block N8.out (tr_size _)
              clear c0 c1' Q0 Q2 Q4 Q5 hwB
              go_wp2_with fail
              exact bodyPost_ret (results_agg2 Try.isAgg24 Try.sizeOf24 _ 4 5 rfl _ _ _ _ _ rfl rfl (put_whole' N8.out (tr_size _) (tr_size _))) rfl ⟨⟨p7, n + 1, c7⟩, by rw [HR.out]; first | done | rfl, by rw [HRL.out]; exact slE_stA' S8.out (fun e => by have := HF8.out _ e; omega), below_stA B8.out (by omega)⟩
            · refine xOp_eff rfl rfl rfl (.slice (some ⟨w4.heap.size, 0, none⟩) 1 1) (w4.drew.alloc (.cells (ne m) 47)) (by rw [HMN.out]; go_simp) (relE_lq below1) ?_
              simp only [Act.put, List.setIfInBounds_toArray, List.set_cons_zero, List.set_cons_succ]
              have F5 : SlE Ene (w4.drew.alloc (.cells (ne m) 47)) (.slice (some ⟨w4.heap.size, 0, none⟩) 1 1) [m] := slE_lit _ [m] 1 _ _ _ rfl rfl (by simp [cellsE, Ene, ne_list])
              have D4 : Below w4.heap.size w4 (w4.drew.alloc (.cells (ne m) 47)) := belowT (belowD (Below.refl _ _) 1) below1
              refine GX.branch1 2 (by kernel_rfl) ?_
              refine xOp_append KneB rfl rfl rfl (.const (.slice none 0 0)) (.tmp 47) rfl (w4.drew.alloc (.cells (ne m) 47)).heap.size _ [] rfl (ownE_nil _ _ _) _ l rfl (slE_keep D4 S4.out) (by have := HL.out; have := HN.out; simp [maxLen]; omega) (by have := HL.out; have := HN.out; simp; omega) (Nat.le_refl _) (fun w' hb => relE_lq hb) ?_
              intro v5 w5 o5' g5
              have o5 := ownE_base o5' D4.size
              simp only [Act.put, List.setIfInBounds_toArray, List.set_cons_zero, List.set_cons_succ]
              obtain ⟨p5, c5, rfl⟩ := ownE_len o5 HL.out
              have E6 := Lib.hid o5
              have F6 := Lib.hid (slE_keep g5.nil F5)
              have D6 : Hid (Below w4.heap.size w4 w5) := belowT D4 g5.nil
              clear o5 o5' g5 F5 D4
              refine GX.branch1 12 (by kernel_rfl) ?_
              refine xOp_append KneB rfl rfl rfl (.tmp 48) (.tmp 57) rfl w4.heap.size _ l rfl E6.out _ [m] rfl F6.out (by have := HL.out; have := HN.out; simp [maxLen]; omega) (by have := HL.out; have := HN.out; simp; omega) D6.out.size (fun w' hb => relE_tail (by kernel_rfl) (hb.mono hwB)) ?_
              intro v7 w7 o7 g7
              simp only [Act.put, List.setIfInBounds_toArray, List.set_cons_zero, List.set_cons_succ]
              have D7 : Below w4.heap.size w4 w7 := D6.out.trans (g7.own E6.out D6.out.size)
              have B7 := Lib.hid (belowT B4.out D7)
              have M7 := blk_keep D7 M4.out
              have N7 := Lib.hid (blk_keep D7 N4.out)
              obtain ⟨p7, c7, rfl⟩ := ownE_len o7 (n := n + 1) (by rw [List.length_append, HL.out]; rfl)
              have O7 := Lib.hid o7
              have c0 : w7.cell? ⟨w.heap.size, 0, none⟩ = some (.slice (some ⟨b1, o1, none⟩) n cp) ∧ w7.frozen? ⟨w.heap.size, 0, none⟩ = false := ⟨by have := (tr_cells M7).1; dsimp only at this; rw [sv_mk] at this; exact this, frozen_of_row _ _ _ _ _ M7⟩
              obtain ⟨c0, c1'⟩ := c0
              obtain ⟨W8, hW8⟩ : ∃ W8, W8 = w7.setCell ⟨w.heap.size, 0, none⟩ (.slice p7 (n + 1) c7) := ⟨_, rfl⟩
              have M8 : Hid (W8.heap[w.heap.size]? = some (.cells (tr ⟨⟨p7, n + 1, c7⟩⟩) 24 (0, 0))) := by
                have := heap_setCell_same M7 0 (.slice p7 (n + 1) c7)
                rw [hW8]
                rwa [tr_sets_n] at this
              have N8 : Hid (W8.heap[w.heap.size + 2]? = some (.cells (tr ztr) 24 (0, 0))) := by
                rw [hW8, Below.heap_setCell _ _ _ _ (show w.heap.size + 2 ≠ w.heap.size by omega)]; exact N7.out
              have B8 : Hid (Below w.heap.size w W8) := by rw [hW8]; exact B7.out.setCell (p := ⟨w.heap.size, 0, none⟩) (Nat.le_refl _) _
              have HF8 : Hid (∀ b, (Value.slice p7 (n + 1) c7).ownBlock = some b → w.heap.size + 3 ≤ b) := fun b hb => by have := (ownE_lt O7.out hb).1; have := (Array.getElem?_eq_some_iff.1 N4.out).1; omega
              have S8 : Hid (SlE Ene W8 (.slice p7 (n + 1) c7) (l ++ [m])) := by rw [hW8]; exact slE_set' (ownE_slE O7.out) (fun e => by have := HF8.out _ e; omega)
              have HW8 := Lib.hid hW8
              clear hW8 o7 g7 M7 D7
              refine GX.take2 13 rfl rfl rfl (by kernel_rfl) (by kernel_rfl) (by kernel_rfl) rfl hwB ?_
              (first | go_big_quiet_step (fail) | quiet_step (fail)); refine wpQuiet_nil ?_
              refine GX.branch1 14 (by kernel_rfl) ?_
              refine xOp_store rfl rfl rfl W8 (by rw [HW8.out]; go_simp) (relE_tail (by kernel_rfl) (by rw [HW8.out]; exact (Below.refl _ _).setCell (p := ⟨w.heap.size, 0, none⟩) (Nat.le_refl _) _)) ?_
              simp only [Act.put]
              refine GX.nil (by kernel_rfl) ?_
              have f0 := ldA_block M8.out (tr_size _)
              have f1 := wrA_block N8.out (tr_size _)
              clear c0 c1' Q0 Q2 Q4 Q5 hwB
              go_wp2_with fail
              exact bodyPost_ret (results_agg2 Try.isAgg24 Try.sizeOf24 _ 4 5 rfl _ _ _ _ _ rfl rfl (put_whole' N8.out (tr_size _) (tr_size _))) rfl ⟨⟨p7, n + 1, c7⟩, by rw [HR.out]; first | done | rfl, by rw [HRL.out]; exact slE_stA' S8.out (fun e => by have := HF8.out _ e; omega), below_stA B8.out (by omega)⟩
/-- The document's Insert. -/
theorem refInsert (s : SlV) (l : List Nd) (x : Bk) (w : World) (h : SlE Ene w (sv s) l) (hn : l.length ≤ 1000) :
    Calls Try.prog 13 #[.agg (tr ⟨s⟩), .agg (bk x)] w (TreeEr (insL l x.root x.parent x.slot x.just) (insE l x.root x.parent x.slot) w) := by
  have hl := sv_lenN h
  obtain ⟨p, n, cp⟩ := s
  dsimp only at hl
  by_cases hm : MayT l
  · obtain ⟨b1, o1, rfl, _, x1⟩ := slE_ptr h hm.pos
    exact refInsert_yes b1 o1 n cp l x w h x1 hl hm
  · have e : insE l x.root x.parent x.slot = 1 := by unfold insE; rw [if_pos hm]
    have e2 : insL l x.root x.parent x.slot x.just = l := by unfold insL; rw [e, if_neg (by decide)]
    rw [e, e2]
    exact refInsert_no p n cp l x w h hl (by omega) hm
end Go.Proofs.Ytnehebipikhejaa
end

section
namespace Go.Proofs.Ytnehebipikhejaa
open Go.RowKit

structure CutR (l : List Nd) (i base bo j : Nat) (v : Value) (s : SlV) (W : World) : Prop where
  out : W.heap[bo]? = some (.cells (tr ⟨s⟩) 24 (0, 0))
  own : OwnE Ene W base (sv s) (cutUp l i j)
  pl : OwnE Eint W base v (plI l i j)
  sep : SepE v (sv s)
theorem CutR.keep {l : List Nd} {i base bo j : Nat} {v : Value} {s : SlV} {W W' : World} (h : CutR l i base bo j v s W) (g : Below W.heap.size W W') : CutR l i base bo j v s W' :=
  ⟨blk_keep g h.out, ownE_keep g h.own, ownE_keep g h.pl, h.sep⟩

set_option maxRecDepth 100000 in
set_option maxHeartbeats 8000000 in
theorem refCut (s : SlV) (l : List Nd) (i : Int) (w : World) (h : SlE Ene w (sv s) l) (hn : l.length ≤ 1000) :
    Calls Try.prog 18 #[.agg (tr ⟨s⟩), .int .i64 i] w (TreeIs (cutZ l i) w) := by
  have HP := Lib.hid (fun W (g : Below w.heap.size w W) => refIs s l i W (slE_keep g h) hn)
  have HV := Lib.hid (fun W (g : Below w.heap.size w W) (k : Int) => refAbove s l i k W (slE_keep g h) hn)
  have HL := Lib.hid (sv_lenN h)
  obtain ⟨p, n, cp⟩ := s
  dsimp only at HL
  obtain ⟨a, ha⟩ : ∃ a, a = isT l i := ⟨_, rfl⟩
  rw [← ha] at HP
  obtain ⟨W0, hW0⟩ : ∃ W0, W0 = ((w.alloc (.cells (tr ⟨⟨p, n, cp⟩⟩) 24)).alloc (.cells (tr ztr) 24)).alloc (.cells (tr ztr) 24) := ⟨_, rfl⟩
  obtain ⟨hB, h0, h1, h2, hz⟩ := heap3 w _ _ _ _ _ _ W0 hW0
  have HB := Lib.hid hB
  have H0 := Lib.hid h0
  have H1 := Lib.hid h1
  have H2 := Lib.hid h2
  have HZ := Lib.hid hz
  have HS := Lib.hid h
  have HW := Lib.hid hW0
  have HA := Lib.hid ha
  clear hW0 h ha hn hB h0 h1 h2 hz
  cases a
  · have HE : Hid (cutZ l i = []) := by show _ = _; unfold cutZ; rw [if_neg (by rw [← HA.out]; exact Bool.false_ne_true)]
    go_enter Try.func18, Try.ntmps18
    go_wp2_with fail
    rw [← HW.out]
    refine (HP.out W0 HB.out).mono ?_
    rintro e w1 ⟨rfl, g1⟩
    have G1 := Lib.hid (belowT HB.out g1)
    obtain ⟨z0, z1, zl⟩ := tr_cells (blk_keep g1 H0.out)
    dsimp only at z0
    rw [sv_mk] at z0
    have N1 := Lib.hid (blk_keep g1 H1.out)
    have x2 := (tr_cells (blk_keep g1 H2.out)).2.1
    have x1 := wrA_block N1.out (tr_size _)
    clear g1
    go_wp2_with fail
    refine wp_loop_rounds 1 ?_
    rw [rounds_succ]
    by_cases hz : 0 < n
    · have t0 : decide ((0 : Int) < (n : Int)) = true := by rw [decide_eq_true_iff]; omega
      have t0' : decide (0 < n) = true := decide_eq_true hz
      clear hz
      go_wp2_with fail
      (try rw [Exit.noGoto_ret])
      refine bodyPost_ret (results_agg1 Try.isAgg24 Try.sizeOf24 _ 4 rfl _ _ _ _ rfl (put_whole' N1.out (tr_size _) (tr_size ztr))) rfl ⟨⟨none, 0, 0⟩, rfl, by rw [HE.out]; exact slE_nil _ _ _ _, below_stA G1.out (by omega)⟩
    · obtain rfl : n = 0 := by omega
      clear hz
      go_wp2_with fail
      (try rw [Exit.noGoto_ret])
      refine bodyPost_ret (results_agg1 Try.isAgg24 Try.sizeOf24 _ 4 rfl _ _ _ _ rfl (put_whole' N1.out (tr_size _) (tr_size ztr))) rfl ⟨⟨none, 0, 0⟩, rfl, by rw [HE.out]; exact slE_nil _ _ _ _, below_stA G1.out (by omega)⟩
  · obtain ⟨hm, hi0, hi1⟩ := isT_iff.1 HA.out.symm
    obtain ⟨i', rfl⟩ : ∃ i' : Nat, i = i' := ⟨i.toNat, by omega⟩
    have HI : Hid (i' < n) := by show i' < n; have := HL.out; omega
    have HE : Hid (cutZ l (i' : Int) = cutUp l i' n) := by show _ = _; unfold cutZ; rw [if_pos (by rw [← HA.out]), Int.toNat_natCast, ← cutUp_all, HL.out]
    have HN : Hid (n ≤ 12) := by show n ≤ 12; have := hm.le; have := HL.out; omega
    have HM := Lib.hid hm
    obtain ⟨b1, o1, rfl, q1, x1⟩ := slE_ptr HS.out hm.pos
    have XR := Lib.hid x1
    clear hi0 hi1 HA hm
    go_enter Try.func18, Try.ntmps18
    go_wp2_with fail
    rw [← HW.out]
    refine (HP.out W0 HB.out).mono ?_
    rintro e w1 ⟨rfl, g1⟩
    have G1 := Lib.hid (belowT HB.out g1)
    have M0 := Lib.hid (blk_keep g1 H0.out)
    have M1 := Lib.hid (blk_keep g1 H1.out)
    have M2 := Lib.hid (blk_keep g1 H2.out)
    have HS1 : Hid (w.heap.size + 3 ≤ w1.heap.size) := by show _ ≤ _; have := g1.size; have := HZ.out; omega
    have X1 := Lib.hid (keepR G1.out x1)
    clear g1 x1 q1
    go_wp2_with fail
    go_loopw [7, 8] (fun v k wr => ∃ (j : Nat) (s : SlV), j ≤ n ∧ k = .int .i64 (j : Int) ∧ CutR l i' w1.heap.size (w.heap.size + 2) j v s wr ∧ wr.heap[w.heap.size]? = some (.cells (tr ⟨⟨some ⟨b1, o1, none⟩, n, cp⟩⟩) 24 (0, 0)) ∧ wr.heap[w.heap.size + 1]? = some (.cells (tr ztr) 24 (0, 0)) ∧ Below w.heap.size w wr ∧ w1.heap.size ≤ wr.heap.size) (fun _ k _ => n - (intOf k).toNat)
    case atStart => exact ⟨0, ⟨none, 0, 0⟩, Nat.zero_le _, rfl, ⟨M2.out, ownE_nil _ _ _, ownE_nil _ _ _, fun b h => by cases h⟩, M0.out, M1.out, G1.out, Nat.le_refl _⟩
    case round =>
      obtain ⟨j, s, hj, rfl, hcm, hm0, hm1, hb, hsz⟩ := hrel
      obtain ⟨wo, rfl⟩ : ∃ wo : World, wo = wr := ⟨_, rfl⟩
      have HC := Lib.hid hcm
      have HM0 := Lib.hid hm0
      have HM1 := Lib.hid hm1
      have HBB := Lib.hid hb
      have HSZ := Lib.hid hsz
      have HJ := Lib.hid hj
      obtain ⟨z0, z1, zl⟩ := tr_cells HM0.out
      dsimp only at z0
      rw [sv_mk] at z0
      clear hcm hm0 hm1 hb hsz hj
      by_cases hlt : j < n
      · have i0 : (0 : Int) ≤ (j : Int) := by omega
        have i1 : (j : Int) < (n : Int) := by omega
        have u1 : (j : Int) + 1 < 10000 := by have := HN.out; omega
        have HLT := Lib.hid hlt
        clear hlt
        obtain ⟨kb, hkb⟩ : ∃ kb, kb = keptB l i' j := ⟨_, rfl⟩
        have HKB := Lib.hid hkb
        clear hkb
        go_wp2_with fail
        refine (HV.out wo HBB.out (j : Int)).mono ?_
        rintro e w2 ⟨rfl, g2⟩
        rw [aboveZ_kept HM.out (by have := HL.out; have := HI.out; omega) (by have := HL.out; have := HLT.out; omega), ← HKB.out]
        have HG2 := Lib.hid g2
        have HC2 := Lib.hid (HC.out.keep g2)
        have HM02 := Lib.hid (blk_keep g2 HM0.out)
        have HM12 := Lib.hid (blk_keep g2 HM1.out)
        have HB2 := Lib.hid (belowT HBB.out g2)
        have HSZ2 : Hid (w1.heap.size ≤ w2.heap.size) := Nat.le_trans HSZ.out g2.size
        clear g2 z0 z1 zl
        cases kb
        · go_wp2_with fail
          go_roundw
          case rel => exact ⟨j + 1, s, HLT.out, by go_num, ⟨HC2.out.out, by rw [cutUp_no HKB.out.symm]; exact HC2.out.own, by rw [plI_no HKB.out.symm]; exact HC2.out.pl, HC2.out.sep⟩, HM02.out, HM12.out, HB2.out, HSZ2.out⟩
          case measure => simp [intOf]; omega
        · obtain ⟨z0, z1, zl⟩ := tr_cells HM02.out
          dsimp only at z0
          rw [sv_mk] at z0
          obtain ⟨x, hx⟩ : ∃ x, x = nd l j := ⟨_, rfl⟩
          have y1 := nds_ld (keepR HB2.out XR.out) (i := j) (by have := HL.out; have := HLT.out; omega)
          rw [← hx] at y1
          have HXx := Lib.hid hx
          clear hx
          go_wp2_with fail
          obtain ⟨W1, hW1⟩ : ∃ W1, W1 = w2.alloc (.cells (ne x) 47) := ⟨_, rfl⟩
          rw [← hW1]
          obtain ⟨np, hnp⟩ : ∃ np, np = (plI l i' j).length := ⟨_, rfl⟩
          have HNP := Lib.hid hnp
          obtain ⟨vp, vc, hv⟩ := ownE_len HC2.out.pl hnp.symm
          subst hv
          clear hnp
          have HNPL : Hid (np ≤ j) := by show np ≤ j; rw [HNP.out, plI_len]; exact cutUp_le l i' j
          have HW1s : Hid (W1.heap.size = w2.heap.size + 1) := by show _ = _; rw [hW1]; exact World.size_alloc _ _
          have BW1 : Hid (Below w2.heap.size w2 W1) := by rw [hW1]; exact below1
          have HN1 : Hid (W1.heap[w2.heap.size]? = some (.cells (ne x) 47 (0, 0))) := by rw [hW1]; exact heap_alloc_last w2 _
          clear hW1 z0 z1 zl y1
          obtain ⟨bq, hbq⟩ : ∃ bq, bq = decide (j ≠ i') := ⟨_, rfl⟩
          have HBQ := Lib.hid hbq
          clear hbq
          go_loopw [11, 12] (fun p q wr => ∃ m : Nat, m ≤ np ∧ q = .int .i64 (m : Int) ∧ p = .int .i64 (parW (plI l i' j) x.parent bq m) ∧ Below W1.heap.size W1 wr) (fun _ q _ => np - (intOf q).toNat)
          case atStart => exact ⟨0, Nat.zero_le _, rfl, rfl, Below.refl _ _⟩
          case round =>
            obtain ⟨m, hm, rfl, rfl, hbi⟩ := hrel
            have HMM := Lib.hid hm
            have HBI := Lib.hid hbi
            have c0 := (ne_cells (blk_keep hbi HN1.out)).2.1
            clear hm hbi
            by_cases hlt : m < np
            · have j0 : (0 : Int) ≤ (m : Int) := by omega
              have j1 : (m : Int) < (np : Int) := by omega
              have u2 : (m : Int) + 1 < 10000 := by have := HN.out; have := HLT.out; have := HNPL.out; omega
              have HLT2 := Lib.hid hlt
              clear hlt
              obtain ⟨bv, ov, cv, ev, _, hbv, hrv⟩ := slE_ne (ownE_slE (ownE_keep HBI.out (ownE_keep BW1.out HC2.out.pl))) (by rw [← HNP.out]; have := HLT2.out; omega)
              have ev' : vp = some ⟨bv, ov, none⟩ := by injection ev
              subst ev'
              clear ev hbv
              have c1 := int_at hrv (q := m) (by rw [← HNP.out]; exact HLT2.out)
              clear hrv
              obtain ⟨pv, hpv⟩ : ∃ pv, pv = parW (plI l i' j) x.parent bq m := ⟨_, rfl⟩
              rw [← hpv]
              have HPV := Lib.hid hpv
              clear hpv
              obtain ⟨yv, hyv⟩ : ∃ yv, yv = (plI l i' j).getD m 0 := ⟨_, rfl⟩
              rw [← hyv] at c1
              have HYV := Lib.hid hyv
              clear hyv
              by_cases he : yv = x.parent
              · have t1 : (yv == x.parent) = true := by simpa using he
                have HEE := Lib.hid he
                clear he
                by_cases hji : j = i'
                · have t2 : ((j : Int) != (i' : Int)) = false := by simp; omega
                  have t3 : ((j : Int) == (i' : Int)) = true := by simp; omega
                  have HR : Hid (parW (plI l i' j) x.parent bq (m + 1) = pv) := by
                    show _ = _
                    rw [HPV.out]
                    show (if _ then _ else _) = _
                    rw [if_neg (fun h => by have := h.2; rw [HBQ.out, decide_eq_true_iff] at this; exact this hji)]
                  clear hji
                  go_wp2_with fail
                  go_quiet (fail)
                  go_wp2_with fail
                  go_roundw
                  case rel => exact ⟨m + 1, HLT2.out, by go_num, by rw [HR.out], belowD HBI.out _⟩
                  case measure => simp [intOf]; have := HLT2.out; omega
                · have t2 : ((j : Int) != (i' : Int)) = true := by simp; omega
                  have t3 : ((j : Int) == (i' : Int)) = false := by simp; omega
                  have HR : Hid (parW (plI l i' j) x.parent bq (m + 1) = (m : Int)) := by
                    show (if _ then _ else _) = _
                    rw [if_pos ⟨by rw [← HYV.out]; exact HEE.out, by rw [HBQ.out]; exact decide_eq_true hji⟩]
                  clear hji
                  go_wp2_with fail
                  go_quiet (fail)
                  go_wp2_with fail
                  go_roundw
                  case rel => exact ⟨m + 1, HLT2.out, by go_num, by rw [HR.out], belowD HBI.out _⟩
                  case measure => simp [intOf]; have := HLT2.out; omega
              · have t1 : (yv == x.parent) = false := by simpa using he
                have HR : Hid (parW (plI l i' j) x.parent bq (m + 1) = pv) := by
                  show _ = _
                  rw [HPV.out]
                  show (if _ then _ else _) = _
                  rw [if_neg (fun h => by rw [← HYV.out] at h; exact he h.1)]
                clear he
                go_wp2_with fail
                go_quiet (fail)
                go_wp2_with fail
                go_roundw
                case rel => exact ⟨m + 1, HLT2.out, by go_num, by rw [HR.out], belowD HBI.out _⟩
                case measure => simp [intOf]; have := HLT2.out; omega
            · obtain rfl : m = np := by have := HMM.out; omega
              clear hlt
              obtain ⟨c, hc⟩ : ∃ c, c = parW (plI l i' j) x.parent bq m := ⟨_, rfl⟩
              rw [← hc]
              have HE2 : Hid (cutN l i' j = { x with parent := c }) := by
                show _ = _
                have h1 := parW_cut HM.out HKB.out.symm
                rw [hc, HBQ.out, HNP.out, HXx.out, h1]
                rfl
              clear hc
              obtain ⟨sp, sn, sc⟩ := s
              have HSN : Hid ((cutUp l i' j).length = sn) := sv_lenN (ownE_slE HC2.out.own)
              have HC3 := Lib.hid (((HC2.out.keep BW1.out).keep HBI.out))
              have HOP : Hid (∀ k, (Value.slice vp m vc).ownBlock = some k → w1.heap.size ≤ k ∧ k < w2.heap.size) := fun k hk => ownE_lt HC2.out.pl hk
              have HOO : Hid (∀ k, (Value.slice sp sn sc).ownBlock = some k → w1.heap.size ≤ k ∧ k < w2.heap.size) := fun k hk => ownE_lt HC2.out.own hk
              have HSEP : Hid (SepE (.slice vp m vc) (.slice sp sn sc)) := HC2.out.sep
              have N7 := Lib.hid (blk_keep HBI.out HN1.out)
              have HWI : Hid (w2.heap.size + 1 ≤ wr.heap.size) := by show _ ≤ _; have := HBI.out.size; have := HW1s.out; omega
              have q5 := not_frozen N7.out 32
              obtain ⟨bs, hbs⟩ : ∃ bs : Nat → Prop, bs = fun k => k = w2.heap.size ∨ k = w.heap.size + 2 ∨ (Value.slice vp m vc).ownBlock = some k ∨ (Value.slice sp sn sc).ownBlock = some k := ⟨_, rfl⟩
              have T2 : Hid (Tn bs wr (wr.setCell ⟨w2.heap.size, 32, none⟩ (.int .i64 c))) := Tn.setCell _ _ _ (by rw [hbs]; exact .inl rfl)
              have N8 : Hid ((wr.setCell ⟨w2.heap.size, 32, none⟩ (.int .i64 c)).heap[w2.heap.size]? = some (.cells (ne { x with parent := c }) 47 (0, 0))) := by
                show _ = _
                rw [heap_setCell_same N7.out, ne_set_parent]
              have B8 : Hid ((wr.setCell ⟨w2.heap.size, 32, none⟩ (.int .i64 c)).heap[w.heap.size + 2]? = some (.cells (tr ⟨⟨sp, sn, sc⟩⟩) 24 (0, 0))) := by
                show _ = _
                rw [Below.heap_setCell _ _ _ _ (by show w.heap.size + 2 ≠ w2.heap.size; have := HS1.out; have := HSZ2.out; omega)]
                exact HC3.out.out
              have P8 : Hid (OwnE Eint (wr.setCell ⟨w2.heap.size, 32, none⟩ (.int .i64 c)) w1.heap.size (.slice vp m vc) (plI l i' j)) :=
                (Tn.setCell (bs := (· = w2.heap.size)) wr 32 (.int .i64 c) rfl).own HC3.out.pl (fun k hk e => by have := HOP.out k hk; omega)
              have O8 : Hid (OwnE Ene (wr.setCell ⟨w2.heap.size, 32, none⟩ (.int .i64 c)) w1.heap.size (.slice sp sn sc) (cutUp l i' j)) :=
                (Tn.setCell (bs := (· = w2.heap.size)) wr 32 (.int .i64 c) rfl).own HC3.out.own (fun k hk e => by have := HOO.out k hk; omega)
              have HBS := Lib.hid hbs
              have HCJ : Hid ((j : Int) = (j : Int)) := rfl
              clear hbs
              go_wp2_with (first
                | (at_builtin
                   refine wpList_append_E Kint _ rfl (.tmp 58) (.tmp 60) rfl w1.heap.size _ (plI l i' j) rfl (ownE_alloc P8.out _) _ [(j : Int)] rfl (slE_lit _ [(j : Int)] 1 _ _ _ rfl (by simp) rfl) (by have := HNP.out; have := HN.out; have := HNPL.out; have := HLT.out; simp; omega) (by have := HWI.out; have := HSZ2.out; simp; omega) ?_
                   intro v3 w3 ho3 hg3
                   obtain ⟨p3, c3, hv3⟩ := ownE_len ho3 (n := m + 1) (by rw [List.length_append, ← HNP.out]; rfl)
                   rw [hv3] at ho3 hg3 ⊢
                   clear hv3
                   have HP3 := Lib.hid ho3
                   have HO3 := Lib.hid (ownE_left HSEP.out (ownE_alloc O8.out _) hg3)
                   have HSE3 := Lib.hid (sepE_left HSEP.out (ownE_alloc O8.out _) hg3)
                   have T3 : Hid (Tn bs wr w3) := T2.out.trans ((Tn.alloc _ _ _).trans (Tn.of_grown hg3.1 (fun k e => by rw [HBS.out]; exact .inr (.inr (.inl e)))))
                   have N9 := Lib.hid (hg3.heap (blk_keep below1 N8.out) (fun e => by have := HOP.out _ e; omega))
                   have B9 := Lib.hid (hg3.heap (blk_keep below1 B8.out) (fun e => by have := HOP.out _ e; have := HS1.out; omega))
                   have q1 := (tr_cells B9.out).1
                   dsimp only at q1
                   rw [sv_mk] at q1
                   have q2 := ldA_block N9.out (ne_size _)
                   clear ho3 hg3)
                | (at_builtin
                   refine wpList_append_E Kne _ rfl (.tmp 63) (.tmp 65) rfl w1.heap.size _ (cutUp l i' j) rfl (ownE_alloc HO3.out _) _ [{ x with parent := c }] rfl (slE_lit _ [{ x with parent := c }] 1 _ _ _ rfl (by simp) (by simp [cellsE, Ene, ne_list])) (by have := cutUp_le l i' j; have := HN.out; have := HLT.out; simp; omega) (by have := T3.out.size; have := HWI.out; have := HSZ2.out; simp; omega) ?_
                   intro v4 w4 ho4 hg4
                   obtain ⟨p4, c4, hv4⟩ := ownE_len ho4 (n := sn + 1) (by rw [List.length_append, HSN.out]; rfl)
                   rw [hv4] at ho4 hg4 ⊢
                   clear hv4
                   have HO4 := Lib.hid ho4
                   have HP4 := Lib.hid (ownE_right HSE3.out (ownE_alloc HP3.out _) hg4)
                   have HSE4 := Lib.hid (sepE_right HSE3.out (ownE_alloc HP3.out _) hg4)
                   have T4 : Hid (Tn bs wr w4) := T3.out.trans ((Tn.alloc _ _ _).trans (Tn.of_grown hg4.1 (fun k e => by rw [HBS.out]; exact .inr (.inr (.inr e)))))
                   have B10 := Lib.hid (hg4.heap (blk_keep below1 B9.out) (fun e => by have := HOO.out _ e; have := HS1.out; omega))
                   have q3 := (tr_cells B10.out).1
                   dsimp only at q3
                   rw [sv_mk] at q3
                   have q6 := not_frozen B10.out 0
                   clear ho4 hg4))
              have T5 : Hid (Tn bs wr (w4.setCell ⟨w.heap.size + 2, 0, none⟩ (.slice p4 (sn + 1) c4))) := T4.out.trans (Tn.setCell _ _ _ (by rw [HBS.out]; exact .inr (.inl rfl)))
              have HNB : Hid (∀ k, bs k → w.heap.size + 2 ≤ k) := fun k hk => by
                rw [HBS.out] at hk
                have := HS1.out; have := HSZ2.out
                rcases hk with h | h | h | h
                · omega
                · omega
                · have := HOP.out k h; omega
                · have := HOO.out k h; omega
              go_roundw
              case rel =>
                refine ⟨j + 1, ⟨p4, sn + 1, c4⟩, HLT.out, by go_num, ⟨?_, ?_, ?_, HSE4.out⟩, T5.out.heap (blk_keep HBI.out (blk_keep BW1.out HM02.out)) (fun e => by have := HNB.out _ e; omega), T5.out.heap (blk_keep HBI.out (blk_keep BW1.out HM12.out)) (fun e => by have := HNB.out _ e; omega), T5.out.below (belowT HB2.out (belowT BW1.out HBI.out)) (fun k e => by have := HNB.out k e; omega) (by have := HWI.out; have := HB2.out.size; omega), Nat.le_trans (by have := HWI.out; have := HSZ2.out; omega : w1.heap.size ≤ wr.heap.size) T5.out.size⟩
                · rw [heap_setCell_same B10.out]
                  congr 2
                  exact tr_set_n _ ⟨p4, sn + 1, c4⟩
                · rw [cutUp_yes HKB.out.symm, HE2.out]
                  exact ownE_set HO4.out (by have := HS1.out; omega) _
                · rw [plI_yes HKB.out.symm]
                  exact ownE_set HP4.out (by have := HS1.out; omega) _
              case measure => simp [intOf]; have := HLT.out; omega
      · obtain rfl : j = n := by have := HJ.out; omega
        clear hlt
        have q1 := (tr_cells HC.out.out).2.1
        have q2 := wrA_block HM1.out (tr_size _)
        go_wp2_with fail
        (try rw [Exit.noGoto_ret])
        refine bodyPost_ret (results_agg1 Try.isAgg24 Try.sizeOf24 _ 4 rfl _ _ _ _ rfl (put_whole' HM1.out (tr_size _) (tr_size ⟨s⟩))) rfl ⟨s, rfl, by rw [HE.out]; exact ownE_slE (ownE_stA HC.out.own (by have := HS1.out; omega)), below_stA HBB.out (by omega)⟩
end Go.Proofs.Ytnehebipikhejaa
end

section
namespace Go.Proofs.Ytnehebipikhejaa
open Go.RowKit

set_option maxRecDepth 100000 in
set_option maxHeartbeats 1000000 in
theorem ints_ne (p q : Option Addr) (n m cl ck : Nat) (w : World) (hl : n ≠ m) :
    Calls Try.prog 19 #[.slice p n cl, .slice q m ck] w fun e w' => e = .returned (.bool false) ∧ Below w.heap.size w w' := by
  have e1 : ((n : Int) == (m : Int)) = false := by simp; omega
  clear hl
  go_enter Try.func19, Try.ntmps19
  go_wp2_with fail
  go_ret
  exact ⟨rfl, Below.refl _ _⟩

set_option maxRecDepth 100000 in
set_option maxHeartbeats 1000000 in
theorem ints_eq (p q : Option Addr) (n cl ck : Nat) (l k : List Int) (w : World) (h : SlE Eint w (.slice p n cl) l) (h' : SlE Eint w (.slice q n ck) k) (hl : l.length = n) (hk : k.length = n) (hn : n ≤ 1000) :
    Calls Try.prog 19 #[.slice p n cl, .slice q n ck] w fun e w' => e = .returned (.bool (decide (l = k))) ∧ Below w.heap.size w w' := by
  have HS := Lib.hid h
  have HT := Lib.hid h'
  have HL := Lib.hid hl
  have HK := Lib.hid hk
  have HN := Lib.hid hn
  obtain ⟨r, hr⟩ : ∃ r, r = decide (l = k) := ⟨_, rfl⟩
  rw [← hr]
  have HR := Lib.hid hr
  clear h h' hl hk hn hr
  go_enter Try.func19, Try.ntmps19
  go_wp2_with fail
  go_loopw [5] (fun i wr => ∃ j : Nat, j ≤ n ∧ i = .int .i64 (j : Int) ∧ (∀ x, x < j → l.getD x 0 = k.getD x 0) ∧ Below w.heap.size w wr) (fun i _ => n - (intOf i).toNat)
  case atStart => exact ⟨0, Nat.zero_le _, rfl, fun x hx => absurd hx (Nat.not_lt_zero _), Below.refl _ _⟩
  case round =>
    obtain ⟨j, hj, rfl, hx, hb⟩ := hrel
    have HX := Lib.hid hx
    have HB := Lib.hid hb
    clear hx hb
    by_cases hlt : j < n
    · have i0 : (0 : Int) ≤ (j : Int) := by omega
      have i1 : (j : Int) < (n : Int) := by omega
      have u1 : (j : Int) + 1 < 10000 := by have := HN.out; omega
      obtain ⟨b1, o1, c1, e1, _, q1, x1⟩ := slE_ne (slE_keep HB.out HS.out) (by have := HL.out; omega)
      have e1' : p = some ⟨b1, o1, none⟩ := by injection e1
      subst e1'
      obtain ⟨b2, o2, c2, e2, _, q2, x2⟩ := slE_ne (slE_keep HB.out HT.out) (by have := HK.out; omega)
      have e2' : q = some ⟨b2, o2, none⟩ := by injection e2
      subst e2'
      have y1 := int_at x1 (q := j) (by have := HL.out; omega)
      have y2 := int_at x2 (q := j) (by have := HK.out; omega)
      clear x1 x2 q1 q2 e1 e2
      obtain ⟨yl, hyl⟩ : ∃ y, y = l.getD j 0 := ⟨_, rfl⟩
      obtain ⟨yk, hyk⟩ : ∃ y, y = k.getD j 0 := ⟨_, rfl⟩
      rw [← hyl] at y1
      rw [← hyk] at y2
      have HYl := Lib.hid hyl
      have HYk := Lib.hid hyk
      clear hyl hyk
      by_cases he : yl = yk
      · have HE : Hid (l.getD j 0 = k.getD j 0) := by show _ = _; rw [← HYl.out, ← HYk.out]; exact he
        rw [he] at y1
        clear he
        go_wp2_with fail
        go_quiet (fail)
        go_wp2_with fail
        go_roundw
        case rel => exact ⟨j + 1, by omega, by go_num, fun x hx => by
          rcases Nat.lt_succ_iff_lt_or_eq.1 hx with h | rfl
          · exact HX.out x h
          · exact HE.out, belowD HB.out _⟩
        case measure => simp [intOf]; omega
      · have hR : Hid (r = false) := by
          show r = false
          rw [HR.out, decide_eq_false_iff_not]
          intro e
          exact he (by rw [HYl.out, HYk.out, e])
        have t1 : (yl == yk) = false := by simpa using he
        clear he
        go_wp2_with fail
        go_quiet (fail)
        go_wp2_with fail
        go_ret
        exact ⟨by rw [hR.out]; first | done | rfl, belowD HB.out _⟩
    · obtain rfl : j = n := by omega
      have hR : Hid (r = true) := by
        show r = true
        rw [HR.out, decide_eq_true_iff]
        refine List.ext_getElem (by rw [HL.out, HK.out]) fun i hi hi' => ?_
        have := HX.out i (by have := HL.out; omega)
        rwa [List.getD_eq_getElem?_getD, List.getD_eq_getElem?_getD, List.getElem?_eq_getElem hi, List.getElem?_eq_getElem hi'] at this
      go_wp2_with fail
      go_ret
      exact ⟨by rw [hR.out]; first | done | rfl, HB.out⟩
/-- The document's Ints: are two lists the same? -/
theorem ref04Ints (v u : Value) (l k : List Int) (w : World) (h : SlE Eint w v l) (h' : SlE Eint w u k) (hn : l.length ≤ 1000) :
    Calls Try.prog 19 #[v, u] w fun e w' => e = .returned (.bool (decide (l = k))) ∧ Below w.heap.size w w' := by
  have hs := h
  have ht := h'
  obtain ⟨p, cl, rfl, _⟩ := slE_shape h
  obtain ⟨q, ck, rfl, _⟩ := slE_shape h'
  by_cases e : l.length = k.length
  · rw [← e] at ht ⊢
    exact ints_eq p q l.length cl ck l k w hs ht rfl e.symm hn
  · rw [decide_eq_false (fun he => e (by rw [he]))]
    exact ints_ne p q _ _ cl ck w e
theorem enters_ref04Ints : ∀ args w, (callFunc 19 args).run Try.prog w = .ok (.enter 19 args) w := entersE Try.func19 (by kernel_rfl) (by kernel_rfl)
end Go.Proofs.Ytnehebipikhejaa
end
