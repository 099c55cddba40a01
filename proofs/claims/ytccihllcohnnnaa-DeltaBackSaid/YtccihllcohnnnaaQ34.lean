/-
  Package vote: May, walked.
  What is asked of stake.May.
-/
import Derived.Test.YtccihllcohnnnaaQ33
import Derived.Test.YtccihllcohnnnaaQ19
import Derived.Test.YtccihllcohnnnaaQ11
import Derived.Test.YtccihllcohnnnaaQ16
namespace Go.Proofs.Ytccihllcohnnnaa
open Go.RowKit
set_option maxRecDepth 100000

/-- May, by the loop over who is there and the bits that are left. -/
theorem mayV_left {v : Vt} {n : Nat} (hl : v.l.length = n) (h1 : 1 ≤ n) (h8 : n ≤ 8) (h : ∀ q, q < n → okAt v q = true) : mayV v = decide (clrU v.out.toNat n = 0) := by
  rw [Bool.eq_iff_iff, decide_eq_true_iff, mayV_iff, clr_none, hl]
  constructor
  · rintro ⟨_, _, h3⟩ i hi
    by_cases h64 : i < 64
    · have := (okAt_iff.1 (h3 i h64)).1
      rw [hl] at this
      cases e : v.out.toNat.testBit i
      · rfl
      · have := this e; omega
    · exact Nat.testBit_lt_two_pow (Nat.lt_of_lt_of_le v.out.toNat_lt (Nat.pow_le_pow_right (by omega) (by omega)))
  · intro h3
    refine ⟨h1, h8, fun i hi => ?_⟩
    by_cases hin : i < n
    · exact h i hin
    · refine okAt_iff.2 ⟨fun e => ?_, fun e => by omega⟩
      have e' : v.out.toNat.testBit i = true := e
      rw [h3 i (by omega)] at e'
      cases e'

set_option maxRecDepth 100000 in
set_option maxHeartbeats 8000000 in
theorem voteMay_n (p : Option Addr) (n cp : Nat) (v : Vt) (w : World) (h : SlE Elt w (.slice p n cp) v.l) (hl : v.l.length = n) :
    Calls Try.prog 40 #[.agg (vo ⟨⟨p, n, cp⟩, v.out⟩)] w fun e w' => e = .returned (.bool (mayV v)) ∧ Below w.heap.size w w' := by
  obtain ⟨W0, hW0⟩ : ∃ W0, W0 = w.alloc (.cells (vo ⟨⟨p, n, cp⟩, v.out⟩) 28) := ⟨_, rfl⟩
  have A : Hid (Vw w W0 w.heap.size ⟨p, n, cp⟩ v) := by rw [hW0]; exact vw_one h
  have HW := Lib.hid hW0
  have HL := Lib.hid hl
  have HF := Lib.hid (voteFew (n : Int) W0)
  have HO : Hid (∀ (s : SlV) (j : Nat) (hj : j < 64) W, Calls Try.prog 41 #[.agg (vo ⟨s, v.out⟩), .int .i64 (j : Int)] W fun e w' => e = .returned (.bool (hasB v.out j)) ∧ Below W.heap.size W w') := fun s j hj W => voteOut s v.out hj W
  obtain ⟨f, hf⟩ : ∃ f, f = newOkV (n : Int) := ⟨_, rfl⟩
  rw [← hf] at HF
  obtain ⟨r, hr⟩ : ∃ r, r = mayV v := ⟨_, rfl⟩
  rw [← hr]
  have HR := Lib.hid hr
  have z0 := A.out.z0
  rw [sv_mk] at z0
  clear hW0 h hl hr
  cases f
  · have hR : Hid (r = false) := by
      show r = false
      rw [HR.out, ← Bool.not_eq_true]
      intro e
      have h1 := (mayV_iff.1 e).1
      have h2 := (mayV_iff.1 e).2.1
      rw [HL.out] at h1 h2
      exact of_decide_eq_false hf.symm (by omega)
    clear hf
    go_enter Try.func40, Try.ntmps40
    go_upto_region 1 with fail
    rw [← HW.out]
    go_wp2_with fail
    refine HF.out.mono ?_
    rintro e w1 ⟨rfl, g⟩
    go_wp2_with fail
    go_ret
    exact ⟨by rw [hR.out]; first | done | rfl, belowT A.out.g g⟩
  · have hf' : 1 ≤ (n : Int) ∧ (n : Int) ≤ 8 := of_decide_eq_true hf.symm
    have H1 : Hid (1 ≤ n ∧ n ≤ 8) := by show _ ∧ _; omega
    clear hf hf'
    obtain ⟨M, hM⟩ : ∃ M, M = (v.out.toNat : Int) := ⟨_, rfl⟩
    have zo := A.out.zo
    have HMz : Hid (M = (clrU v.out.toNat 0 : Int)) := by show _ = _; rw [hM, clr_zero]
    have HMo := Lib.hid hM
    rw [← hM] at zo
    clear hM
    go_enter Try.func40, Try.ntmps40
    go_upto_region 1 with fail
    rw [← HW.out]
    go_wp2_with fail
    refine HF.out.mono ?_
    rintro e w1 ⟨rfl, g⟩
    replace A := Lib.hid (A.out.keep g)
    clear g z0 zo HF
    have zo := A.out.zo
    rw [← HMo.out] at zo
    have z0 := A.out.z0
    rw [sv_mk] at z0
    go_wp2_with fail
    clear z0 zo
    go_loopw [3, 17] (fun m i wr => ∃ j : Nat, j ≤ n ∧ i = .int .i64 (j : Int) ∧ m = .int .u64 (clrU v.out.toNat j : Int) ∧ (∀ q, q < j → okAt v q = true) ∧ Vw w wr w.heap.size ⟨p, n, cp⟩ v) (fun _ i _ => n - (intOf i).toNat)
    case atStart => exact ⟨0, Nat.zero_le _, rfl, by rw [HMz.out], fun q hq => absurd hq (Nat.not_lt_zero _), A.out⟩
    case round =>
      obtain ⟨j, hj, rfl, rfl, hx, hA⟩ := hrel
      have HX := Lib.hid hx
      replace A := Lib.hid hA
      clear hx hA
      by_cases hlt : j < n
      · have i0 : (0 : Int) ≤ (j : Int) := by omega
        have i1 : (j : Int) < (n : Int) := by omega
        have u1 : (j : Int) + 1 < 10000 := by have := H1.out; omega
        have H64 : Hid (j < 64) := by have := H1.out; show j < 64; omega
        have HLT := Lib.hid hlt
        obtain ⟨b1, o1, rfl, _, x1⟩ := lats_ptr A.out.s (by rw [HL.out]; omega)
        have y1 := lats_ld x1 (i := j) (by rw [HL.out]; exact hlt)
        have hjl : j < v.l.length := by rw [HL.out]; exact hlt
        obtain ⟨b, hb⟩ : ∃ b, b = hasB v.out j := ⟨_, rfl⟩
        have hk : okAt v j = (if b = true ∨ (lat v.l j).has = false then decide (lat v.l j = zlt) else true) := by
          unfold okAt
          rw [if_neg (fun e => e.2 hjl), ← hb]
          by_cases e : b = true ∨ (lat v.l j).has = false
          · rw [if_pos ⟨hjl, e⟩, if_pos e]
          · rw [if_neg (fun e2 => e e2.2), if_neg e]
        have HC : Hid (∀ s W, Calls Try.prog 41 #[.agg (vo ⟨s, v.out⟩), .int .i64 (j : Int)] W fun e w' => e = .returned (.bool b) ∧ Below W.heap.size W w') := fun s W => by rw [hb]; exact HO.out s j H64.out W
        have HNo : Hid (okAt v j = false → r = false) := fun e => by
          rw [HR.out, ← Bool.not_eq_true]
          intro e2
          rw [(mayV_iff.1 e2).2.2 j H64.out] at e
          cases e
        obtain ⟨c1, hc1⟩ : ∃ c, c = clrU v.out.toNat j := ⟨_, rfl⟩
        obtain ⟨c2, hc2⟩ : ∃ c, c = clrU v.out.toNat (j + 1) := ⟨_, rfl⟩
        obtain ⟨B, hB⟩ : ∃ B, B = (bitN (j : Int) : Int) := ⟨_, rfl⟩
        have a1 : bits .andNot .u64 (c1 : Int) B = (c2 : Int) := by rw [hc1, hc2, hB]; exact clr_next v.out.toNat_lt H64.out
        have HSb := Lib.hid (fun W => stakeBit (j : Int) W)
        rw [← hB] at HSb
        rw [← hc1]
        have HC2 := Lib.hid hc2
        generalize lat v.l j = x at *
        obtain ⟨hs, hhs⟩ : ∃ hs, hs = x.has := ⟨_, rfl⟩
        rw [← hhs] at hk
        have HK := Lib.hid hk
        have HHs := Lib.hid hhs
        clear x1 hk hjl hb hlt hc1 hc2 hB hhs
        go_upto_region 7 with fail
        obtain ⟨w2, hw2⟩ : ∃ w2, w2 = wr.alloc (.cells (lt x) 41) := ⟨_, rfl⟩
        rw [← hw2]
        have hx2 : w2.heap[wr.heap.size]? = some (.cells (lt x) 41 (0, 0)) := by rw [hw2]; exact heap_alloc_last wr _
        have X2 := Lib.hid hx2
        replace A := Lib.hid (A.out.keep (W' := w2) (by rw [hw2]; exact below1))
        have z1 := A.out.z1
        obtain ⟨q0, q1, q2, q3, q4⟩ := lt_cells hx2
        rw [← HHs.out] at q0
        clear hw2 hx2 y1
        by_cases hz : x = zlt
        · have t1 : decide (x = zlt) = true := decide_eq_true hz
          have HT : Hid (okAt v j = true) := by show _ = _; rw [HK.out, decide_eq_true hz]; split <;> rfl
          clear hz
          cases hs
          · go_wp2_with fail
            refine (HSb.out _).mono ?_
            rintro e w4 ⟨rfl, g⟩
            replace A := Lib.hid (A.out.keep g)
            clear g
            go_wp2_with fail
            go_roundw
            case rel => exact ⟨j + 1, HLT.out, by go_num, by rw [HC2.out], (fun q hq => by
              rcases Nat.lt_succ_iff_lt_or_eq.1 hq with h | rfl
              · exact HX.out q h
              · exact HT.out), A.out⟩
            case measure => simp [intOf]; have := HLT.out; omega
          · cases b
            · go_wp2_with fail
              refine (HC.out _ _).mono ?_
              rintro e w3 ⟨rfl, g⟩
              replace A := Lib.hid (A.out.keep g)
              obtain ⟨q0, q1, q2, q3, q4⟩ := lt_cells (blk_keep g X2.out)
              clear g z1
              go_wp2_with fail
              refine (HSb.out _).mono ?_
              rintro e w4 ⟨rfl, g⟩
              replace A := Lib.hid (A.out.keep g)
              clear g
              go_wp2_with fail
              go_roundw
              case rel => exact ⟨j + 1, HLT.out, by go_num, by rw [HC2.out], (fun q hq => by
                rcases Nat.lt_succ_iff_lt_or_eq.1 hq with h | rfl
                · exact HX.out q h
                · exact HT.out), A.out⟩
              case measure => simp [intOf]; have := HLT.out; omega
            · go_wp2_with fail
              refine (HC.out _ _).mono ?_
              rintro e w3 ⟨rfl, g⟩
              replace A := Lib.hid (A.out.keep g)
              obtain ⟨q0, q1, q2, q3, q4⟩ := lt_cells (blk_keep g X2.out)
              clear g z1
              go_wp2_with fail
              refine (HSb.out _).mono ?_
              rintro e w4 ⟨rfl, g⟩
              replace A := Lib.hid (A.out.keep g)
              clear g
              go_wp2_with fail
              go_roundw
              case rel => exact ⟨j + 1, HLT.out, by go_num, by rw [HC2.out], (fun q hq => by
                rcases Nat.lt_succ_iff_lt_or_eq.1 hq with h | rfl
                · exact HX.out q h
                · exact HT.out), A.out⟩
              case measure => simp [intOf]; have := HLT.out; omega
        · have t1 : decide (x = zlt) = false := decide_eq_false hz
          cases hs
          · have HF : Hid (r = false) := HNo.out (by rw [HK.out, if_pos (.inr rfl), t1])
            clear hz
            go_wp2_with fail
            go_ret
            exact ⟨by rw [HF.out]; first | done | rfl, A.out.g⟩
          · cases b
            · have HT : Hid (okAt v j = true) := by show _ = _; rw [HK.out, if_neg (by simp)]
              clear hz
              go_wp2_with fail
              refine (HC.out _ _).mono ?_
              rintro e w3 ⟨rfl, g⟩
              replace A := Lib.hid (A.out.keep g)
              obtain ⟨q0, q1, q2, q3, q4⟩ := lt_cells (blk_keep g X2.out)
              clear g z1
              go_wp2_with fail
              refine (HSb.out _).mono ?_
              rintro e w4 ⟨rfl, g⟩
              replace A := Lib.hid (A.out.keep g)
              clear g
              go_wp2_with fail
              go_roundw
              case rel => exact ⟨j + 1, HLT.out, by go_num, by rw [HC2.out], (fun q hq => by
                rcases Nat.lt_succ_iff_lt_or_eq.1 hq with h | rfl
                · exact HX.out q h
                · exact HT.out), A.out⟩
              case measure => simp [intOf]; have := HLT.out; omega
            · have HF : Hid (r = false) := HNo.out (by rw [HK.out, if_pos (.inl rfl), t1])
              clear hz
              go_wp2_with fail
              refine (HC.out _ _).mono ?_
              rintro e w3 ⟨rfl, g⟩
              replace A := Lib.hid (A.out.keep g)
              obtain ⟨q0, q1, q2, q3, q4⟩ := lt_cells (blk_keep g X2.out)
              clear g z1
              go_wp2_with fail
              go_ret
              exact ⟨by rw [HF.out]; first | done | rfl, A.out.g⟩
      · obtain rfl : j = n := by omega
        have hR : Hid (r = decide (clrU v.out.toNat j = 0)) := by show _ = _; rw [HR.out]; exact mayV_left HL.out H1.out.1 H1.out.2 HX.out
        obtain ⟨c, hc⟩ : ∃ c, c = clrU v.out.toNat j := ⟨_, rfl⟩
        rw [← hc] at hR ⊢
        have t1 : ((c : Int) == 0) = decide (c = 0) := by rw [Bool.eq_iff_iff, beq_iff_eq, decide_eq_true_iff]; omega
        have t2 : (c == 0) = decide (c = 0) := by rw [Bool.eq_iff_iff, beq_iff_eq, decide_eq_true_iff]
        have HRR := Lib.hid hR.out
        clear hlt hc hR
        go_wp2_with fail
        go_ret
        exact ⟨by rw [HRR.out]; first | done | rfl | simp, A.out.g⟩
theorem voteMay (s : SlV) (v : Vt) (w : World) (h : SlE Elt w (sv s) v.l) :
    Calls Try.prog 40 #[.agg (vo ⟨s, v.out⟩)] w fun e w' => e = .returned (.bool (mayV v)) ∧ Below w.heap.size w w' := by
  have hl := sv_lenT h
  obtain ⟨p, n, cp⟩ := s
  dsimp only at hl
  exact voteMay_n p n cp v w h hl
end Go.Proofs.Ytccihllcohnnnaa
namespace Go.Proofs.Ytccihllcohnnnaa
open Go.RowKit
set_option maxRecDepth 100000

def StMayC : Prop := ∀ (v : Value) (l : List UInt64) (w : World), SlE Enum w v l → Calls Try.prog 37 #[v] w fun e w' => e = .returned (.bool (mayB l)) ∧ Below w.heap.size w w'
end Go.Proofs.Ytccihllcohnnnaa
