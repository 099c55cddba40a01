/-
  The document's links: Who, walked. (written by wip/gen/ref15.py)
  The document's bits: Bit, walked.
-/
import Derived.Test.YtkbifcfgcokmlaaQ14
import Derived.Test.YtkbifcfgcokmlaaQ10
import Derived.Test.YtkbifcfgcokmlaaQ05
namespace Go.Proofs.Ytkbifcfgcokmlaa
open Go.RowKit
set_option maxRecDepth 100000

/-- Two checkpoints in variables. -/
theorem ck_two (w : World) (a b : Ck) (W : World) (hW : W = (w.alloc (.cells (cc a) 27)).alloc (.cells (cc b) 27)) : Below w.heap.size w W ∧ W.heap[w.heap.size]? = some (.cells (cc a) 27 (0, 0)) ∧ W.heap[w.heap.size + 1]? = some (.cells (cc b) 27 (0, 0)) := by
  obtain ⟨g, m, n, _⟩ := heap2 w _ _ _ _ W hW
  exact ⟨g, m, n⟩

set_option maxRecDepth 100000 in
set_option maxHeartbeats 8000000 in
theorem ref15Who_n (p : Option Addr) (n cp : Nat) (l : List Lk) (s t : Ck) (w : World) (h : SlE Elk w (.slice p n cp) l) (hl : l.length = n) (hn : n ≤ 1000) :
    Calls Try.prog 19 #[.slice p n cp, .agg (cc s), .agg (cc t)] w fun e w' => e = .returned (.int .u64 ((whoK l s t).toNat : Int)) ∧ Below w.heap.size w w' := by
  have HL := Lib.hid hl
  have HN := Lib.hid hn
  obtain ⟨r, hr⟩ : ∃ r, r = (whoK l s t).toNat := ⟨_, rfl⟩
  rw [← hr]
  have HR := Lib.hid hr
  obtain ⟨W0, hW0⟩ : ∃ W0, W0 = (w.alloc (.cells (cc s) 27)).alloc (.cells (cc t) 27) := ⟨_, rfl⟩
  obtain ⟨hB, m0, m1⟩ := ck_two w s t W0 hW0
  have HB := Lib.hid hB
  have HW := Lib.hid hW0
  have M0 := Lib.hid m0
  have M1 := Lib.hid m1
  have HS := Lib.hid (slE_keep hB h)
  clear h hl hn hr hW0 hB m0 m1
  go_enter Try.func19, Try.ntmps19
  go_wp2_with fail
  rw [← HW.out]
  go_loopw [7] (fun i wr => ∃ j : Nat, j ≤ n ∧ i = .int .i64 (j : Int) ∧ (∀ x, x < j → isK s t (lkAt l x) = false) ∧ Below W0.heap.size W0 wr) (fun i _ => n - (intOf i).toNat)
  case atStart => exact ⟨0, Nat.zero_le _, rfl, fun x hx => absurd hx (Nat.not_lt_zero _), Below.refl _ _⟩
  case round =>
    obtain ⟨j, hj, rfl, hx, hg⟩ := hrel
    have HX := Lib.hid hx
    have HG := Lib.hid hg
    clear hx hg
    by_cases hlt : j < n
    · have i0 : (0 : Int) ≤ (j : Int) := by omega
      have i1 : (j : Int) < (n : Int) := by omega
      have u1 : (j : Int) + 1 < 10000 := by have := HN.out; omega
      have d0 : decide ((j : Int) < (n : Int)) = true := decide_eq_true i1
      have d0' : decide (j < n) = true := decide_eq_true hlt
      have HLT := Lib.hid hlt
      obtain ⟨b1, o1, rfl, _, x1⟩ := lks_ptr (slE_keep HG.out HS.out) (by have := HL.out; omega)
      have y1 := lks_s x1 (i := j) (by have := HL.out; omega)
      have y2 := lks_t x1 (i := j) (by have := HL.out; omega)
      have y3 := lks_mask x1 (i := j) (by have := HL.out; omega)
      have c1 := (ck_v (blk_keep HG.out M0.out)).a
      have c2 := (ck_v (blk_keep HG.out M1.out)).a
      have HF : Hid (isK s t (lkAt l j) = true → r = (lkAt l j).mask.toNat) := fun e => by
        have ha := atk_spec (by rw [HL.out]; exact HLT.out) e HX.out
        rw [HR.out]; unfold whoK; rw [ha, if_pos (by rw [HL.out]; exact HLT.out)]
      have HK : Hid (isK s t (lkAt l j) = (decide ((lkAt l j).s = s) && decide ((lkAt l j).t = t))) := by show _ = _; unfold isK; rw [Bool.eq_iff_iff]; simp
      obtain ⟨K, hK⟩ : ∃ K, K = isK s t (lkAt l j) := ⟨_, rfl⟩
      rw [← hK] at HF HK
      have HKe := Lib.hid hK
      obtain ⟨E1, hE1⟩ : ∃ E, E = decide ((lkAt l j).s = s) := ⟨_, rfl⟩
      obtain ⟨E2, hE2⟩ : ∃ E, E = decide ((lkAt l j).t = t) := ⟨_, rfl⟩
      rw [← hE1, ← hE2] at HK
      have t1 := hE1.symm
      have t2 := hE2.symm
      generalize (lkAt l j).mask.toNat = M at *
      generalize (lkAt l j).s = A1 at *
      generalize (lkAt l j).t = A2 at *
      clear hlt x1 hK hE1 hE2
      cases E1
      · have hk : Hid (K = false) := HK.out
        go_wp2_with fail
        go_quiet (fail)
        go_wp2_with fail
        go_roundw
        case rel => exact ⟨j + 1, HLT.out, by go_num, (fun x hx => by
          rcases Nat.lt_succ_iff_lt_or_eq.1 hx with h | rfl
          · exact HX.out x h
          · rw [← HKe.out]; exact hk.out), belowD HG.out _⟩
        case measure => simp [intOf]; have := HLT.out; omega
      · cases E2
        · have hk : Hid (K = false) := HK.out
          go_wp2_with fail
          go_quiet (fail)
          go_wp2_with fail
          go_roundw
          case rel => exact ⟨j + 1, HLT.out, by go_num, (fun x hx => by
            rcases Nat.lt_succ_iff_lt_or_eq.1 hx with h | rfl
            · exact HX.out x h
            · rw [← HKe.out]; exact hk.out), belowD HG.out _⟩
          case measure => simp [intOf]; have := HLT.out; omega
        · have hF : Hid (r = M) := HF.out HK.out
          go_wp2_with fail
          go_quiet (fail)
          go_wp2_with fail
          go_ret
          exact ⟨by rw [hF.out]; first | done | rfl, belowT HB.out (belowD HG.out _)⟩
    · obtain rfl : j = n := by omega
      have d0 : decide ((j : Int) < (j : Int)) = false := decide_eq_false (Int.lt_irrefl _)
      have d0' : decide (j < j) = false := decide_eq_false (Nat.lt_irrefl _)
      have hF : Hid (r = 0) := by
        show r = 0
        have ha := at_none (l := l) (s := s) (t := t) (fun k hk => HX.out k (by rw [← HL.out]; exact hk))
        rw [HR.out]; unfold whoK; rw [ha, if_neg (Nat.lt_irrefl _)]; rfl
      clear hlt
      go_wp2_with fail
      go_ret
      exact ⟨by rw [hF.out]; first | done | rfl, belowT HB.out HG.out⟩
theorem ref15Who (v : Value) (l : List Lk) (s t : Ck) (w : World) (h : SlE Elk w v l) (hn : l.length ≤ 1000) :
    Calls Try.prog 19 #[v, .agg (cc s), .agg (cc t)] w fun e w' => e = .returned (.int .u64 ((whoK l s t).toNat : Int)) ∧ Below w.heap.size w w' := by
  have k := h
  obtain ⟨p, cp, rfl, _⟩ := slE_shape h
  exact ref15Who_n p _ cp l s t w k rfl hn
theorem enters_ref15Who : ∀ args w, (callFunc 19 args).run Try.prog w = .ok (.enter 19 args) w := entersE Try.func19 (by kernel_rfl) (by kernel_rfl)
end Go.Proofs.Ytkbifcfgcokmlaa
namespace Go.Proofs.Ytkbifcfgcokmlaa
open Go.RowKit
set_option maxRecDepth 100000

set_option maxRecDepth 100000 in
set_option maxHeartbeats 1000000 in
theorem ref11Bit (v : Int) (w : World) :
    Calls Try.prog 27 #[.int .i64 v] w fun e w' => e = .returned (.int .u64 (bitN v : Int)) ∧ Below w.heap.size w w' := by
  by_cases h0 : v < 0
  · have t0 : decide (v < 0) = true := decide_eq_true h0
    rw [show bitN v = 0 from if_neg (by omega)]
    clear h0
    go_enter Try.func27, Try.ntmps27
    go_wp2_with fail
    go_ret
    exact ⟨rfl, Below.refl _ _⟩
  · have t0 : decide (v < 0) = false := decide_eq_false h0
    by_cases h1 : 63 < v
    · have t1 : decide (63 < v) = true := decide_eq_true h1
      rw [show bitN v = 0 from if_neg (by omega)]
      clear h0 h1
      go_enter Try.func27, Try.ntmps27
      go_wp2_with fail
      go_ret
      exact ⟨rfl, Below.refl _ _⟩
    · have t1 : decide (63 < v) = false := decide_eq_false h1
      obtain ⟨n, rfl⟩ : ∃ n : Nat, v = n := ⟨v.toNat, by omega⟩
      have hn : n < 64 := by omega
      rw [bitN_nat hn]
      have HN := Lib.hid hn
      obtain ⟨P, hP⟩ : ∃ P : Nat → Nat, P = fun j => 2 ^ j := ⟨_, rfl⟩
      rw [show 2 ^ n = P n by rw [hP]]
      have HP0 : Hid (P 0 = 1) := by show P 0 = 1; rw [hP]
      have HPs : Hid (∀ j, P (j + 1) = 2 * P j) := fun j => by rw [hP]; show 2 ^ (j + 1) = 2 * 2 ^ j; rw [Nat.pow_succ, Nat.mul_comm]
      have HPl : Hid (∀ j, j < 64 → P j < 18446744073709551616) := fun j hj => by rw [hP]; have : 2 ^ j ≤ 2 ^ 63 := Nat.pow_le_pow_right (by omega) (by omega); show 2 ^ j < _; omega
      clear h0 h1 hn hP
      go_enter Try.func27, Try.ntmps27
      go_wp2_with fail
      go_loopw [3, 4] (fun o i wr => ∃ j : Nat, j ≤ n ∧ i = .int .i64 (j : Int) ∧ o = .int .u64 (P j : Int) ∧ wr = w) (fun _ i _ => n - (intOf i).toNat)
      case atStart => exact ⟨0, Nat.zero_le _, rfl, by rw [HP0.out]; rfl, rfl⟩
      case round =>
        obtain ⟨j, hj, rfl, rfl, rfl⟩ := hrel
        by_cases hlt : j < n
        · have d0 : decide ((j : Int) < (n : Int)) = true := decide_eq_true (by omega)
          have d0' : decide (j < n) = true := decide_eq_true hlt
          have u1 : (j : Int) + 1 < 10000 := by have := HN.out; omega
          have hs := HPs.out j
          have hl := HPl.out (j + 1) (by have := HN.out; omega)
          obtain ⟨x, hx⟩ : ∃ x, x = P j := ⟨_, rfl⟩
          rw [← hx] at hs
          rw [← hx]
          have u2 : 2 * (x : Int) < 18446744073709551616 := by omega
          have u3 : 0 ≤ 2 * (x : Int) := by omega
          have HS : Hid ((P (j + 1) : Int) = 2 * (x : Int)) := by show _ = _; omega
          have HLT := Lib.hid hlt
          clear hlt hs hl hx
          go_wp2_with fail
          go_roundw
          case rel => exact ⟨j + 1, HLT.out, by go_num, by rw [HS.out], by first | rfl | trivial⟩
          case measure => simp [intOf]; have := HLT.out; omega
        · obtain rfl : j = n := by omega
          clear hlt
          go_wp2_with fail
          go_ret
          exact ⟨rfl, Below.refl _ _⟩
theorem enters_ref11Bit : ∀ args w, (callFunc 27 args).run Try.prog w = .ok (.enter 27 args) w := entersE Try.func27 (by kernel_rfl) (by kernel_rfl)

end Go.Proofs.Ytkbifcfgcokmlaa
