/-
  The document's own Of, walked.
-/
import Derived.Test.YtecppjbbodpcnaaRootN
namespace Go.Proofs.Ytecppjbbodpcnaa
open Go.RowKit

theorem packR_step2 (l : List UInt8) (k : Nat) (hk : k < 32) (x : Int) (hx : x = 16 * valD (l.getD (2 * k) 0) + valD (l.getD (2 * k + 1) 0)) :
    (rc (packR l (2 * k))).setIfInBounds k (.int .u8 x) = rc (packR l (2 * (k + 1))) := by
  refine rc_set _ _ _ _ ?_ fun i hi hne => ?_
  · rw [packR_at _ _ _ hk, hx]
    unfold pByte
    rw [if_pos (by omega)]
    omega
  · rw [packR_at _ _ _ hi, packR_at _ _ _ hi]
    unfold pByte
    by_cases e : i < k
    · rw [if_pos (by omega), if_pos (by omega)]
    · rw [if_neg (by omega), if_neg (by omega), if_neg (by omega), if_neg (by omega)]
theorem vI_some {c : UInt8} {p : Nat} (h : vOf c = some p) : vI c = (p : Int) := by unfold vI; rw [h]
theorem vI_none {c : UInt8} (h : vOf c = none) : vI c = -1 := by unfold vI; rw [h]
theorem index_2k (s : ByteArray) (k : Nat) (h : 2 * k + 1 < s.size) (w : World) :
    (Instr.index 9 (.string s) (.int .i64 (2 * (k : Int)))).run Try.prog w = .ok (.int .u8 ((s.data.toList.getD (2 * k) 0).toNat : Int)) w ∧ (Instr.index 9 (.string s) (.int .i64 (2 * (k : Int) + 1))).run Try.prog w = .ok (.int .u8 ((s.data.toList.getD (2 * k + 1) 0).toNat : Int)) w := by
  have h1 := string_index s (2 * k) (by omega) w
  have h2 := string_index s (2 * k + 1) h w
  rw [show ((2 * k : Nat) : Int) = 2 * (k : Int) by omega] at h1
  rw [show ((2 * k + 1 : Nat) : Int) = 2 * (k : Int) + 1 by omega] at h2
  rw [h1, h2, getD_data s (2 * k) (by omega), getD_data s (2 * k + 1) h]
  exact ⟨rfl, rfl⟩

set_option maxRecDepth 100000 in
set_option maxHeartbeats 1000000 in
theorem refOf_short (s : ByteArray) (w : World) (h : s.size ≠ 64) :
    Calls Try.prog 11 #[.string s] w (OfIs s.data.toList w) := by
  have hne : ((s.size : Int) != 64) = true := by simp; omega
  have hno : ofL s.data.toList = none := ofL_none_len (by simpa using h)
  have HNO := Lib.hid hno; clear hno
  go_enter Try.func11, Try.ntmps11
  go_wp2
  exact bodyPost_ret (results_root _ rfl _ _ _ (rc zr) _ rfl rfl (by go_simp)) rfl (ofIs_no HNO.out (belowA (belowA (Below.refl _ _) _) _))

set_option maxRecDepth 100000 in
set_option maxHeartbeats 4000000 in
theorem refOf_long (s : ByteArray) (w : World) (h : s.size = 64) :
    Calls Try.prog 11 #[.string s] w (OfIs s.data.toList w) := by
  have hne : ((s.size : Int) != 64) = false := by simp; omega
  have hge : 64 ≤ s.size := by omega
  have H := Lib.hid h; clear h
  go_enter Try.func11, Try.ntmps11
  go_wp2
  go_loopw [5] (fun i wr => ∃ k : Nat, k ≤ 32 ∧ i = .int .i64 k ∧ hexes s.data.toList (2 * k) ∧ wr = (w.alloc (.cells (rc zr) 23)).alloc (.cells (rc (packR s.data.toList (2 * k))) 23)) (fun i _ => 32 - (intOf i).toNat)
  case atStart => exact ⟨0, Nat.zero_le _, rfl, fun j hj => absurd hj (by omega), by rw [Nat.mul_zero, packR_zero]⟩
  case round =>
    obtain ⟨k, hk, rfl, hx, rfl⟩ := hrel
    have HX := Lib.hid hx; clear hx
    by_cases hlt : k < 32
    · have i0 : (0 : Int) ≤ (k : Int) := by omega
      have i1 : (k : Int) < 32 := by omega
      have n1 := fun W => (index_2k s k (by omega) W).1
      have n2 := fun W => (index_2k s k (by omega) W).2
      have c1 := fun W => value_any (s.data.toList.getD (2 * k) 0) W
      have c2 := fun W => value_any (s.data.toList.getD (2 * k + 1) 0) W
      have hl : s.data.toList.length = s.size := by simp
      have hno : (vOf (s.data.toList.getD (2 * k) 0) = none ∨ vOf (s.data.toList.getD (2 * k + 1) 0) = none) → ofL s.data.toList = none := by
        rintro (h | h)
        · exact ofL_none_at _ (by omega) h
        · exact ofL_none_at _ (by omega) h
      cases v1 : vOf (s.data.toList.getD (2 * k) 0) with
      | none =>
        have HNO := Lib.hid (hno (.inl v1))
        rw [vI_none v1] at c1
        generalize vI (s.data.toList.getD (2 * k + 1) 0) = y at *
        generalize s.data.toList.getD (2 * k) 0 = A at *
        generalize s.data.toList.getD (2 * k + 1) 0 = B at *
        clear hno v1 hl
        go_wp2_with fail
        refine (c1 _).mono ?_
        rintro e w1 ⟨rfl, rfl⟩
        go_wp2_with fail
        refine (c2 _).mono ?_
        rintro e w1 ⟨rfl, rfl⟩
        go_wp2_with fail
        exact bodyPost_ret (results_root _ rfl _ _ _ (rc zr) _ rfl rfl (by go_simp)) rfl (ofIs_no HNO.out (belowA (belowA (Below.refl _ _) _) _))
      | some p =>
        have hp := (vOf_some v1).1
        rw [vI_some v1] at c1
        cases v2 : vOf (s.data.toList.getD (2 * k + 1) 0) with
        | none =>
          have HNO := Lib.hid (hno (.inr v2))
          rw [vI_none v2] at c2
          generalize s.data.toList.getD (2 * k) 0 = A at *
          generalize s.data.toList.getD (2 * k + 1) 0 = B at *
          have p0 : ¬ (p : Int) < 0 := by omega
          clear hno v1 v2 hl
          go_wp2_with fail
          refine (c1 _).mono ?_
          rintro e w1 ⟨rfl, rfl⟩
          go_wp2_with fail
          refine (c2 _).mono ?_
          rintro e w1 ⟨rfl, rfl⟩
          go_wp2_with fail
          exact bodyPost_ret (results_root _ rfl _ _ _ (rc zr) _ rfl rfl (by go_simp)) rfl (ofIs_no HNO.out (belowA (belowA (Below.refl _ _) _) _))
        | some q =>
          have hq := (vOf_some v2).1
          rw [vI_some v2] at c2
          have HS := Lib.hid (packR_step2 s.data.toList k hlt (16 * (p : Int) + (q : Int)) (by unfold valD; rw [v1, v2]; rfl))
          have HV1 := Lib.hid v1
          have HV2 := Lib.hid v2
          clear hno v1 v2 hl
          have p0 : ¬ (p : Int) < 0 := by omega
          have q0 : ¬ (q : Int) < 0 := by omega
          have hw : IntKind.u8.wrap (16 * (p : Int) + (q : Int)) = 16 * (p : Int) + (q : Int) := by simp [IntKind.wrap, IntKind.bits, IntKind.signed]; omega
          generalize hA : s.data.toList.getD (2 * k) 0 = A at *
          generalize hB : s.data.toList.getD (2 * k + 1) 0 = B at *
          have HA := Lib.hid hA; clear hA
          have HBB := Lib.hid hB; clear hB
          go_wp2_with fail
          refine (c1 _).mono ?_
          rintro e w1 ⟨rfl, rfl⟩
          go_wp2_with fail
          refine (c2 _).mono ?_
          rintro e w1 ⟨rfl, rfl⟩
          have hs := HS.out
          go_wp2_with fail
          go_roundw
          case rel =>
            refine ⟨k + 1, by omega, by go_num, fun j hj => ?_, rfl⟩
            by_cases e1 : j = 2 * k
            · rw [e1, HA.out, HV1.out]; rfl
            · by_cases e2 : j = 2 * k + 1
              · rw [e2, HBB.out, HV2.out]; rfl
              · exact HX.out j (by omega)
          case measure => simp [intOf]; omega
    · obtain rfl : k = 32 := by omega
      have hyes := ofL_some (l := s.data.toList) (by have := H.out; simpa using this) HX.out
      have HY := Lib.hid hyes; clear hyes
      go_wp2
      exact bodyPost_ret (results_root _ rfl _ _ _ (rc (packR s.data.toList 64)) _ rfl rfl (by go_simp)) rfl (ofIs_yes HY.out (belowA (belowA (Below.refl _ _) _) _))

theorem refOf_any (s : ByteArray) (w : World) : Calls Try.prog 11 #[.string s] w (OfIs s.data.toList w) := by
  by_cases h : s.size = 64
  · exact refOf_long s w h
  · exact refOf_short s w h
end Go.Proofs.Ytecppjbbodpcnaa
