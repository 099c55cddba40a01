/-
  The document's bits: Bit, walked.
  The document's bits: Has, walked.
  The document's votes: May, New, walked.
-/
import Derived.Test.YtccihllcohnnnaaQ11
import Derived.Test.YtccihllcohnnnaaQ10
import Derived.Test.YtccihllcohnnnaaQ16
import Derived.Deep.Cut
namespace Go.Proofs.Ytccihllcohnnnaa
open Go.RowKit
set_option maxRecDepth 100000

set_option maxRecDepth 100000 in
set_option maxHeartbeats 1000000 in
theorem ref11Bit (v : Int) (w : World) :
    Calls Try.prog 64 #[.int .i64 v] w fun e w' => e = .returned (.int .u64 (bitN v : Int)) ∧ Below w.heap.size w w' := by
  by_cases h0 : v < 0
  · have t0 : decide (v < 0) = true := decide_eq_true h0
    rw [show bitN v = 0 from if_neg (by omega)]
    clear h0
    go_enter Try.func64, Try.ntmps64
    go_wp2_with fail
    go_ret
    exact ⟨rfl, Below.refl _ _⟩
  · have t0 : decide (v < 0) = false := decide_eq_false h0
    by_cases h1 : 63 < v
    · have t1 : decide (63 < v) = true := decide_eq_true h1
      rw [show bitN v = 0 from if_neg (by omega)]
      clear h0 h1
      go_enter Try.func64, Try.ntmps64
      go_wp2_with fail
      go_ret
      exact ⟨rfl, Below.refl _ _⟩
    · have t1 : decide (63 < v) = false := decide_eq_false h1
      obtain ⟨n, rfl⟩ : ∃ n : Nat, v = n := ⟨v.toNat, by omega⟩
      have hn : n < 64 := by omega
      rw [bitN_nat hn]
      have HN := Lib.hid hn
      obtain ⟨P, hP⟩ : ∃ P : Nat → Nat, P = fun j => 2 ^ j := ⟨_, rfl⟩
      rw [show 2 ^ n = P n by rw [hP]]
      have HP0 : Hid (P 0 = 1) := by show P 0 = 1; rw [hP]
      have HPs : Hid (∀ j, P (j + 1) = 2 * P j) := fun j => by rw [hP]; show 2 ^ (j + 1) = 2 * 2 ^ j; rw [Nat.pow_succ, Nat.mul_comm]
      have HPl : Hid (∀ j, j < 64 → P j < 18446744073709551616) := fun j hj => by rw [hP]; have : 2 ^ j ≤ 2 ^ 63 := Nat.pow_le_pow_right (by omega) (by omega); show 2 ^ j < _; omega
      clear h0 h1 hn hP
      go_enter Try.func64, Try.ntmps64
      go_wp2_with fail
      go_loopw [3, 4] (fun o i wr => ∃ j : Nat, j ≤ n ∧ i = .int .i64 (j : Int) ∧ o = .int .u64 (P j : Int) ∧ wr = w) (fun _ i _ => n - (intOf i).toNat)
      case atStart => exact ⟨0, Nat.zero_le _, rfl, by rw [HP0.out]; rfl, rfl⟩
      case round =>
        obtain ⟨j, hj, rfl, rfl, rfl⟩ := hrel
        by_cases hlt : j < n
        · have d0 : decide ((j : Int) < (n : Int)) = true := decide_eq_true (by omega)
          have d0' : decide (j < n) = true := decide_eq_true hlt
          have u1 : (j : Int) + 1 < 10000 := by have := HN.out; omega
          have hs := HPs.out j
          have hl := HPl.out (j + 1) (by have := HN.out; omega)
          obtain ⟨x, hx⟩ : ∃ x, x = P j := ⟨_, rfl⟩
          rw [← hx] at hs
          rw [← hx]
          have u2 : 2 * (x : Int) < 18446744073709551616 := by omega
          have u3 : 0 ≤ 2 * (x : Int) := by omega
          have HS : Hid ((P (j + 1) : Int) = 2 * (x : Int)) := by show _ = _; omega
          have HLT := Lib.hid hlt
          clear hlt hs hl hx
          go_wp2_with fail
          go_roundw
          case rel => exact ⟨j + 1, HLT.out, by go_num, by rw [HS.out], by first | rfl | trivial⟩
          case measure => simp [intOf]; have := HLT.out; omega
        · obtain rfl : j = n := by omega
          clear hlt
          go_wp2_with fail
          go_ret
          exact ⟨rfl, Below.refl _ _⟩
theorem enters_ref11Bit : ∀ args w, (callFunc 64 args).run Try.prog w = .ok (.enter 64 args) w := entersE Try.func64 (by kernel_rfl) (by kernel_rfl)

end Go.Proofs.Ytccihllcohnnnaa
namespace Go.Proofs.Ytccihllcohnnnaa
open Go.RowKit
set_option maxRecDepth 100000

set_option maxRecDepth 100000 in
set_option maxHeartbeats 1000000 in
theorem ref11Has (mask : UInt64) (v : Int) (w : World) :
    Calls Try.prog 58 #[.int .u64 (mask.toNat : Int), .int .i64 v] w fun e w' => e = .returned (.bool (hasZ mask v)) ∧ Below w.heap.size w w' := by
  have HB := Lib.hid (fun W => ref11Bit v W)
  by_cases h : 0 ≤ v ∧ v ≤ 63
  · obtain ⟨n, rfl⟩ : ∃ n : Nat, v = n := ⟨v.toNat, by omega⟩
    have hn : n < 64 := by omega
    rw [bitN_nat hn] at HB
    rw [hasZ_nat hn, has_div]
    have hp : 0 < 2 ^ n := Nat.two_pow_pos n
    obtain ⟨m, hm⟩ : ∃ m, m = mask.toNat := ⟨_, rfl⟩
    have hml : m < 18446744073709551616 := by rw [hm]; exact mask.toNat_lt
    rw [← hm]
    obtain ⟨b, hb⟩ : ∃ b, b = 2 ^ n := ⟨_, rfl⟩
    rw [← hb] at hp HB
    rw [← hb]
    have t0 : decide ((0 : Int) < (b : Int)) = true := decide_eq_true (by omega)
    have t0' : decide (0 < b) = true := decide_eq_true hp
    obtain ⟨q, hq⟩ : ∃ q, q = m / b := ⟨_, rfl⟩
    have hql : q < 18446744073709551616 := by rw [hq]; exact Nat.lt_of_le_of_lt (Nat.div_le_self _ _) hml
    rw [← hq]
    have eq : (m : Int) / (b : Int) = (q : Int) := by rw [hq]; exact (Int.natCast_ediv m b).symm
    have b0 : ¬ (b : Int) = 0 := by omega
    have b0' : ¬ b = 0 := by omega
    have b1 : ((b : Int) == 0) = false := by rw [beq_eq_false_iff_ne]; omega
    have b1' : (b == 0) = false := by rw [beq_eq_false_iff_ne]; omega
    have eq' : Int.tdiv (m : Int) (b : Int) = (q : Int) := by rw [Int.tdiv_eq_ediv_of_nonneg (by omega)]; exact eq
    have HQ2 : Hid (((q : Int) % 2 == 1) = decide (q % 2 = 1)) := by show _ = _; rw [Bool.eq_iff_iff, beq_iff_eq, decide_eq_true_iff]; omega
    clear h hn hm hb hp hq eq
    go_enter Try.func58, Try.ntmps58
    go_wp2_with fail
    refine (HB.out _).mono ?_
    rintro e w1 ⟨rfl, g⟩
    go_wp2_with fail
    go_ret
    exact ⟨by show Ending.returned (.bool ((q : Int) % 2 == 1)) = _; rw [HQ2.out], g⟩
  · rw [show bitN v = 0 from if_neg h] at HB
    rw [show hasZ mask v = false by unfold hasZ; rw [decide_eq_false h]; rfl]
    clear h
    go_enter Try.func58, Try.ntmps58
    go_wp2_with fail
    refine (HB.out _).mono ?_
    rintro e w1 ⟨rfl, g⟩
    go_wp2_with fail
    go_ret
    exact ⟨rfl, g⟩
theorem ref11HasN (mask : UInt64) {v : Nat} (hv : v < 64) (w : World) :
    Calls Try.prog 58 #[.int .u64 (mask.toNat : Int), .int .i64 (v : Int)] w fun e w' => e = .returned (.bool (hasB mask v)) ∧ Below w.heap.size w w' := by
  have := ref11Has mask (v : Int) w
  rwa [hasZ_nat hv] at this
end Go.Proofs.Ytccihllcohnnnaa
namespace Go.Proofs.Ytccihllcohnnnaa
open Go.RowKit
set_option maxRecDepth 100000

/-- Votes in a variable. -/
structure Vw (w W : World) (T : Nat) (s : SlV) (v : Vt) : Prop where
  box : W.heap[T]? = some (.cells (vo ⟨s, v.out⟩) 28 (0, 0))
  s : SlE Elt W (sv s) v.l
  g : Below w.heap.size w W
section
variable {w W W' : World} {T : Nat} {s : SlV} {v : Vt}
theorem Vw.keep (h : Vw w W T s v) (g : Below W.heap.size W W') : Vw w W' T s v := ⟨blk_keep g h.box, slE_keep g h.s, belowT h.g g⟩
theorem Vw.z1 (h : Vw w W T s v) : ldA W (.pointer (some ⟨T, 0, none⟩)) 2 = some (vo ⟨s, v.out⟩) := (vo_cells h.box).2.2.1
theorem Vw.z0 (h : Vw w W T s v) : W.cell? ⟨T, 0, none⟩ = some (sv s) := (vo_cells h.box).1
theorem Vw.zo (h : Vw w W T s v) : W.cell? ⟨T, 1, none⟩ = some (.int .u64 (v.out.toNat : Int)) := (vo_cells h.box).2.1
theorem vw_one (h : SlE Elt w (sv s) v.l) : Vw w (w.alloc (.cells (vo ⟨s, v.out⟩) 28)) w.heap.size s v := ⟨heap_alloc_last w _, slE_keep below1 h, below1⟩
end
set_option maxRecDepth 100000 in
set_option maxHeartbeats 8000000 in
theorem ref12May_n (p : Option Addr) (n cp : Nat) (v : Vt) (w : World) (h : SlE Elt w (.slice p n cp) v.l) (hl : v.l.length = n) (hn : n ≤ 1000) :
    Calls Try.prog 45 #[.agg (vo ⟨⟨p, n, cp⟩, v.out⟩)] w fun e w' => e = .returned (.bool (mayV v)) ∧ Below w.heap.size w w' := by
  obtain ⟨W0, hW0⟩ : ∃ W0, W0 = w.alloc (.cells (vo ⟨⟨p, n, cp⟩, v.out⟩) 28) := ⟨_, rfl⟩
  have A : Hid (Vw w W0 w.heap.size ⟨p, n, cp⟩ v) := by rw [hW0]; exact vw_one h
  have HW := Lib.hid hW0
  have HL := Lib.hid hl
  have HN := Lib.hid hn
  have HH := Lib.hid (fun (j : Nat) (hj : j < 64) W => ref11HasN v.out hj W)
  obtain ⟨M, hM⟩ : ∃ M, M = (v.out.toNat : Int) := ⟨_, rfl⟩
  have HMo := Lib.hid hM
  rw [← hM] at HH
  obtain ⟨r, hr⟩ : ∃ r, r = mayV v := ⟨_, rfl⟩
  rw [← hr]
  have HR := Lib.hid hr
  clear hW0 h hl hn hM hr
  go_enter Try.func45, Try.ntmps45
  go_upto_region 1 with fail
  rw [← HW.out]
  go_wp2_with fail
  go_loopw [3, 4] (fun i _ wr => ∃ j : Nat, j ≤ 64 ∧ i = .int .i64 (j : Int) ∧ (∀ q, q < j → okAt v q = true) ∧ Vw w wr w.heap.size ⟨p, n, cp⟩ v) (fun i _ _ => 64 - (intOf i).toNat)
  case atStart => exact ⟨0, Nat.zero_le _, rfl, fun q hq => absurd hq (Nat.not_lt_zero _), A.out⟩
  case round =>
    obtain ⟨j, hj, rfl, hx, hA⟩ := hrel
    have HX := Lib.hid hx
    replace A := Lib.hid hA
    clear hx hA
    have z0 := A.out.z0
    rw [sv_mk] at z0
    by_cases hlt : j < 64
    · have zo := A.out.zo
      rw [← HMo.out] at zo
      have d0 : decide ((j : Int) < 64) = true := decide_eq_true (by omega)
      have d0' : decide (j < 64) = true := decide_eq_true hlt
      have u1 : (j : Int) + 1 < 10000 := by omega
      have HC := Lib.hid (HH.out j hlt wr)
      obtain ⟨b, hb⟩ : ∃ b, b = hasB v.out j := ⟨_, rfl⟩
      rw [← hb] at HC
      have HBb := Lib.hid hb
      have HLT := Lib.hid hlt
      have HOk : Hid (okAt v j = false → r = false) := fun e => by
        rw [HR.out, ← Bool.not_eq_true]
        intro e2
        rw [(mayV_iff.1 e2).2.2 j HLT.out] at e
        cases e
      clear hlt hb
      go_wp2_with fail
      refine HC.out.mono ?_
      rintro e w1 ⟨rfl, g⟩
      replace A := Lib.hid (A.out.keep g)
      clear g z0 zo
      have z0 := A.out.z0
      rw [sv_mk] at z0
      by_cases hjn : j < n
      · have i0 : (0 : Int) ≤ (j : Int) := by omega
        have i1 : (j : Int) < (n : Int) := by omega
        have d1 : decide ((n : Int) ≤ (j : Int)) = false := decide_eq_false (by omega)
        have d1' : decide (n ≤ j) = false := decide_eq_false (by omega)
        have d2 : decide ((j : Int) < (n : Int)) = true := decide_eq_true (by omega)
        have d2' : decide (j < n) = true := decide_eq_true hjn
        obtain ⟨b1, o1, rfl, _, x1⟩ := lats_ptr A.out.s (by rw [HL.out]; omega)
        have y1 := lats_has x1 (i := j) (by rw [HL.out]; exact hjn)
        have y2 := lats_ld x1 (i := j) (by rw [HL.out]; exact hjn)
        have hk : okAt v j = (if b = true ∨ (lat v.l j).has = false then decide (lat v.l j = zlt) else true) := by
          have hjl : j < v.l.length := by rw [HL.out]; exact hjn
          unfold okAt
          rw [if_neg (fun e => e.2 hjl), ← HBb.out]
          by_cases e : b = true ∨ (lat v.l j).has = false
          · rw [if_pos ⟨hjl, e⟩, if_pos e]
          · rw [if_neg (fun e2 => e e2.2), if_neg e]
        generalize lat v.l j = x at *
        obtain ⟨hs, hhs⟩ : ∃ hs, hs = x.has := ⟨_, rfl⟩
        rw [← hhs] at hk y1
        have HK := Lib.hid hk
        clear x1 hk hhs hjn
        by_cases hz : x = zlt
        · have HT : Hid (okAt v j = true) := by show _ = _; rw [HK.out, decide_eq_true hz]; split <;> rfl
          have t1 : decide (x = zlt) = true := decide_eq_true hz
          have T1 : Hid (x = zlt) := hz
          clear hz
          cases b <;> cases hs <;> (
            go_wp2_with fail
            go_roundw
            case rel => exact ⟨j + 1, HLT.out, by go_num, (fun q hq => by
              rcases Nat.lt_succ_iff_lt_or_eq.1 hq with h | rfl
              · exact HX.out q h
              · exact HT.out), A.out⟩
            case measure => simp [intOf]; have := HLT.out; omega)
        · have t1 : decide (x = zlt) = false := decide_eq_false hz
          by_cases hc : b = true ∨ hs = false
          · have hF : Hid (r = false) := HOk.out (by rw [HK.out, if_pos hc, t1])
            have hc' : (b = true) ∨ (b = false ∧ hs = false) := by cases b; (· exact .inr ⟨rfl, hc.resolve_left (by simp)⟩); (· exact .inl rfl)
            clear hz hc
            rcases hc' with rfl | ⟨rfl, rfl⟩
            · go_wp2_with fail
              go_ret
              exact ⟨by rw [hF.out]; first | done | rfl, A.out.g⟩
            · go_wp2_with fail
              go_ret
              exact ⟨by rw [hF.out]; first | done | rfl, A.out.g⟩
          · have HT : Hid (okAt v j = true) := by show _ = _; rw [HK.out, if_neg hc]
            have hb0 : b = false := by cases b; (· rfl); (· exact absurd (.inl rfl) hc)
            have hs1 : hs = true := by cases hs; (· exact absurd (.inr rfl) hc); (· rfl)
            clear hz hc
            subst hb0 hs1
            go_wp2_with fail
            go_roundw
            case rel => exact ⟨j + 1, HLT.out, by go_num, (fun q hq => by
              rcases Nat.lt_succ_iff_lt_or_eq.1 hq with h | rfl
              · exact HX.out q h
              · exact HT.out), A.out⟩
            case measure => simp [intOf]; have := HLT.out; omega
      · have d1 : decide ((n : Int) ≤ (j : Int)) = true := decide_eq_true (by omega)
        have d1' : decide (n ≤ j) = true := decide_eq_true (by omega)
        have d2 : decide ((j : Int) < (n : Int)) = false := decide_eq_false (by omega)
        have d2' : decide (j < n) = false := decide_eq_false hjn
        have hjl : ¬ j < v.l.length := by rw [HL.out]; exact hjn
        have hk : okAt v j = !b := by
          unfold okAt
          rw [← HBb.out]
          cases b
          · rw [if_neg (fun e => by cases e.1), if_neg (fun e => hjl e.1)]; rfl
          · rw [if_pos ⟨rfl, hjl⟩]; rfl
        have HK := Lib.hid hk
        clear hk hjl hjn
        cases b
        · have HT : Hid (okAt v j = true) := by show _ = _; rw [HK.out]; rfl
          go_wp2_with fail
          go_roundw
          case rel => exact ⟨j + 1, HLT.out, by go_num, (fun q hq => by
            rcases Nat.lt_succ_iff_lt_or_eq.1 hq with h | rfl
            · exact HX.out q h
            · exact HT.out), A.out⟩
          case measure => simp [intOf]; have := HLT.out; omega
        · have hF : Hid (r = false) := HOk.out (by rw [HK.out]; rfl)
          go_wp2_with fail
          go_ret
          exact ⟨by rw [hF.out]; first | done | rfl, A.out.g⟩
    · obtain rfl : j = 64 := by omega
      clear hlt
      by_cases h1 : 1 ≤ n
      · have t1 : decide ((1 : Int) ≤ (n : Int)) = true := decide_eq_true (by omega)
        have t1' : decide (1 ≤ n) = true := decide_eq_true h1
        by_cases h8 : n ≤ 8
        · have t2 : decide ((n : Int) ≤ 8) = true := decide_eq_true (by omega)
          have t2' : decide (n ≤ 8) = true := decide_eq_true h8
          have hF : Hid (r = true) := by show r = true; rw [HR.out]; exact mayV_iff.2 ⟨by rw [HL.out]; exact h1, by rw [HL.out]; exact h8, fun i hi => HX.out i hi⟩
          clear h1 h8
          go_wp2_with fail
          go_ret
          exact ⟨by rw [hF.out]; first | done | rfl, A.out.g⟩
        · have t2 : decide ((n : Int) ≤ 8) = false := decide_eq_false (by omega)
          have t2' : decide (n ≤ 8) = false := decide_eq_false h8
          have hF : Hid (r = false) := by show r = false; rw [HR.out, ← Bool.not_eq_true]; intro e; have := (mayV_iff.1 e).2.1; rw [HL.out] at this; omega
          clear h1 h8
          go_wp2_with fail
          go_ret
          exact ⟨by rw [hF.out]; first | done | rfl, A.out.g⟩
      · have t1 : decide ((1 : Int) ≤ (n : Int)) = false := decide_eq_false (by omega)
        have t1' : decide (1 ≤ n) = false := decide_eq_false h1
        have hF : Hid (r = false) := by show r = false; rw [HR.out, ← Bool.not_eq_true]; intro e; have := (mayV_iff.1 e).1; rw [HL.out] at this; omega
        clear h1
        go_wp2_with fail
        go_ret
        exact ⟨by rw [hF.out]; first | done | rfl, A.out.g⟩
theorem ref12May (s : SlV) (v : Vt) (w : World) (h : SlE Elt w (sv s) v.l) (hn : v.l.length ≤ 1000) :
    Calls Try.prog 45 #[.agg (vo ⟨s, v.out⟩)] w fun e w' => e = .returned (.bool (mayV v)) ∧ Below w.heap.size w w' := by
  have hl := sv_lenT h
  obtain ⟨p, n, cp⟩ := s
  dsimp only at hl
  exact ref12May_n p n cp v w h hl (by omega)
theorem enters_ref12May : ∀ args w, (callFunc 45 args).run Try.prog w = .ok (.enter 45 args) w := entersE Try.func45 (by kernel_rfl) (by kernel_rfl)
end Go.Proofs.Ytccihllcohnnnaa
