/-
  The document's own numberAt, rootAt, Block and Att of layer 3, walked.
-/
import Derived.Test.YtjdpndclgmdahaaWireK
namespace Go.Proofs.Ytjdpndclgmdahaa
open Go.RowKit

theorem rt_step (m : List UInt8) (j : Nat) (hj : j < 32) : (rc (rtOf (m.take j))).setIfInBounds j (.int .u8 (bt m j)) = rc (rtOf (m.take (j + 1))) := by
  apply Array.ext_getElem?
  intro i
  rw [Array.getElem?_setIfInBounds]
  by_cases e : j = i
  · subst e
    rw [if_pos rfl, if_pos (by rw [rc_size]; exact hj), rc_get _ j hj, rtOf_at _ j hj, bt_take m (j + 1) j (by omega)]
  · rw [if_neg e]
    by_cases hi : i < 32
    · rw [rc_get _ i hi, rc_get _ i hi, rtOf_at _ i hi, rtOf_at _ i hi]
      unfold bt
      rw [List.getD_eq_getElem?_getD, List.getD_eq_getElem?_getD, List.getElem?_take, List.getElem?_take]
      by_cases h : i < j
      · rw [if_pos h, if_pos (by omega)]
      · rw [if_neg h, if_neg (by omega)]
    · rw [Array.getElem?_eq_none (by rw [rc_size]; omega), Array.getElem?_eq_none (by rw [rc_size]; omega)]
theorem rt_nil : rtOf [] = zr := by kernel_rfl
theorem rt_zero (m : List UInt8) : rtOf (m.take 0) = zr := by rw [List.take_zero]; exact rt_nil
theorem rt_all (m : List UInt8) : rtOf (m.take 32) = rtOf m := by
  refine at8_ext fun i hi => ?_
  rw [rtOf_at _ i hi, rtOf_at _ i hi, bt_take m 32 i hi]

set_option maxRecDepth 100000 in
set_option maxHeartbeats 1000000 in
theorem numberAt_any (b off cap : Nat) (l : List UInt8) (at' : Nat) (h : at' + 8 ≤ l.length) (hl : l.length ≤ 300) (w : World) (hx : ∀ i, i < l.length → w.cell? ⟨b, off + i, none⟩ = some (.int .u8 (bt l i))) :
    Calls Try.prog 26 #[.slice (some ⟨b, off, none⟩) l.length cap, .int .i64 (at' : Int)] w fun e w' => e = .returned (num (unnum (l.drop at'))) ∧ w' = w := by
  have HX := Lib.hid hx; clear hx
  obtain ⟨m, hm⟩ : ∃ m, m = l.drop at' := ⟨_, rfl⟩
  have HN : Hid (num (unnum (l.drop at')) = .int .u64 ((natOf (m.take 8) : Nat) : Int)) := by show _ = _; rw [num, unnum_toNat, hm]
  have HML : Hid (8 ≤ m.length) := by show _ ≤ _; rw [hm, List.length_drop]; omega
  have HMB : Hid (∀ i, bt m i = bt l (at' + i)) := fun i => by rw [hm, bt_drop]
  generalize num (unnum (l.drop at')) = R at *
  clear hm
  go_enter Try.func26, Try.ntmps26
  go_wp2_with fail
  go_loopw [5, 6] (fun n i wr => ∃ k : Nat, k ≤ 8 ∧ i = .int .i64 k ∧ n = .int .u64 ((natOf (m.take k) : Nat) : Int) ∧ wr = w) (fun _ i _ => 8 - (intOf i).toNat)
  case atStart => exact ⟨0, by omega, rfl, rfl, rfl⟩
  case round =>
    obtain ⟨k, hk, rfl, rfl, rfl⟩ := hrel
    by_cases hlt : k < 8
    · have i0 : (0 : Int) ≤ (k : Int) := by omega
      have i1 : (at' : Int) + (k : Int) < (l.length : Int) := by omega
      have hc := HX.out (at' + k) (by omega)
      have bb := bt_bd l (at' + k)
      have HE : Hid (natOf (m.take (k + 1)) = 256 * natOf (m.take k) + (bt l (at' + k)).toNat) := by
        have := HML.out
        show _ = _
        rw [natOf_take m k (by omega), ← HMB.out k]
        unfold bt
        rw [getD_in m (by omega)]
        rfl
      have hb1 : natOf (m.take k) < 72057594037927936 := by
        have h1 := natOf_lt (m.take k)
        have h2 : (m.take k).length ≤ 7 := by rw [List.length_take]; omega
        have h3 := Nat.pow_le_pow_right (show 0 < 256 by omega) h2
        have h4 : (256 : Nat) ^ 7 = 72057594037927936 := by decide
        omega
      generalize natOf (m.take k) = N at *
      generalize bt l (at' + k) = D at *
      go_wp2_with fail
      refine ⟨⟨k + 1, by omega, by go_num, ?_, trivial⟩, by simp [intOf]; omega⟩
      rw [HE.out]
      exact congrArg _ (by omega)
    · obtain rfl : k = 8 := by omega
      go_wp2_with fail
      go_ret
      exact ⟨by rw [HN.out]; rfl, rfl⟩

set_option maxRecDepth 100000 in
set_option maxHeartbeats 1000000 in
theorem rootAt_any (b off cap : Nat) (l : List UInt8) (at' : Nat) (h : at' + 32 ≤ l.length) (hl : l.length ≤ 300) (w : World) (hb : b < w.heap.size) (hx : ∀ i, i < l.length → w.cell? ⟨b, off + i, none⟩ = some (.int .u8 (bt l i))) :
    Calls Try.prog 25 #[.slice (some ⟨b, off, none⟩) l.length cap, .int .i64 (at' : Int)] w fun e w' => e = .returned (.agg (rc (rtOf (l.drop at')))) ∧ Below w.heap.size w w' := by
  have HX := Lib.hid hx; clear hx
  obtain ⟨m, hm⟩ : ∃ m, m = l.drop at' := ⟨_, rfl⟩
  have HMB : Hid (∀ i, bt m i = bt l (at' + i)) := fun i => by rw [hm, bt_drop]
  rw [← hm]
  clear hm
  have HAll := Lib.hid (rt_all m)
  go_enter Try.func25, Try.ntmps25
  go_wp2_with fail
  go_loopw [6] (fun i wr => ∃ k : Nat, k ≤ 32 ∧ i = .int .i64 k ∧ wr = (w.alloc (.cells (rc zr) 23)).alloc (.cells (rc (rtOf (m.take k))) 23)) (fun i _ => 32 - (intOf i).toNat)
  case atStart => exact ⟨0, by omega, rfl, by rw [rt_zero]⟩
  case round =>
    obtain ⟨k, hk, rfl, rfl⟩ := hrel
    by_cases hlt : k < 32
    · have i0 : (0 : Int) ≤ (k : Int) := by omega
      have i2 : (k : Int) < 32 := by omega
      have i1 : (at' : Int) + (k : Int) < (l.length : Int) := by omega
      have hc : ((w.alloc (.cells (rc zr) 23)).alloc (.cells (rc (rtOf (m.take k))) 23)).cell? ⟨b, off + (at' + k), none⟩ = some (.int .u8 (bt l (at' + k))) := by
        rw [World.cell?_alloc_lt _ _ _ (by simp; omega), World.cell?_alloc_lt _ _ _ hb]; exact HX.out (at' + k) (by omega)
      have hs := rt_step m k hlt
      rw [HMB.out k] at hs
      go_wp2_with fail
      go_roundw
      case rel => exact ⟨k + 1, by omega, by go_num, rfl⟩
      case measure => simp [intOf]; omega
    · obtain rfl : k = 32 := by omega
      go_wp2_with fail
      exact bodyPost_ret (results_agg1 Try.isAgg23 Try.sizeOf23 _ 4 rfl _ _ _ (rc (rtOf (m.take 32))) rfl (by go_simp)) rfl ⟨by rw [HAll.out], ((Below.refl _ _).alloc (Nat.le_refl _) _).alloc (by simp) _⟩

set_option maxRecDepth 100000 in
set_option maxHeartbeats 1000000 in
theorem refBlock_no (v : Value) (l : List UInt8) (w : World) (h : SlB w v l) (hB : isB l = false) : Calls Try.prog 13 #[v] w (BlockIs l w) := by
  have hcase : (l.length = 81 ∧ ¬ bt l 0 = 1) ∨ ¬ l.length = 81 := by
    unfold isB at hB
    rw [Bool.and_eq_false_iff, decide_eq_false_iff_not, decide_eq_false_iff_not] at hB
    by_cases h1 : l.length = 81
    · exact .inl ⟨h1, hB.resolve_left (fun h => h h1)⟩
    · exact .inr h1
  have HB := Lib.hid hB
  have HS := Lib.hid h
  clear hB h
  rcases hcase with ⟨h1, h2⟩ | h1
  · obtain ⟨b, off, cap, rfl, hcap, hb, hx⟩ := slB_ne HS.out (by omega)
    have e1 : ((l.length : Int) != 81) = false := by simp; omega
    have i1 : (0 : Int) < (l.length : Int) := by omega
    have hc : (w.alloc (.cells (bc zb) 26)).cell? ⟨b, off, none⟩ = some (.int .u8 (bt l 0)) := by rw [World.cell?_alloc_lt _ _ _ hb]; exact hx 0 (by omega)
    have e2 : (bt l 0 != 1) = true := by simpa using h2
    clear hx h1 h2
    go_enter Try.func13, Try.ntmps13
    go_wp2_with fail
    exact bodyPost_ret (results_agg2 Try.isAgg26 Try.sizeOf26 _ 2 3 rfl _ _ _ (bc zb) _ rfl rfl (by go_simp)) rfl ⟨by rw [blkOf_not HB.out, HB.out]; rfl, (Below.refl _ _).alloc (Nat.le_refl _) _⟩
  · obtain ⟨p, cap, rfl, hcap⟩ := slB_shape HS.out
    have e1 : ((l.length : Int) != 81) = true := by simp; omega
    clear h1
    go_enter Try.func13, Try.ntmps13
    go_wp2_with fail
    exact bodyPost_ret (results_agg2 Try.isAgg26 Try.sizeOf26 _ 2 3 rfl _ _ _ (bc zb) _ rfl rfl (by go_simp)) rfl ⟨by rw [blkOf_not HB.out, HB.out]; rfl, (Below.refl _ _).alloc (Nat.le_refl _) _⟩

set_option maxRecDepth 100000 in
set_option maxHeartbeats 1000000 in
theorem refBlock_yes (v : Value) (l : List UInt8) (w : World) (h : SlB w v l) (hB : isB l = true) : Calls Try.prog 13 #[v] w (BlockIs l w) := by
  have hl := isB_len hB
  have h0 : bt l 0 = 1 := by
    unfold isB at hB
    rw [Bool.and_eq_true, decide_eq_true_iff, decide_eq_true_iff] at hB
    exact hB.2
  obtain ⟨b, off, cap, rfl, hcap, hb, hx⟩ := slB_ne h (by omega)
  have HE : Hid (Ending.returned (.tuple #[.agg (bc (getB l)), .bool true]) = .returned (.tuple #[.agg (bc (blkOf l)), .bool (isB l)])) := by
    show _ = _
    unfold blkOf
    rw [if_pos hB, hB]
  have e1 : ((l.length : Int) != 81) = false := by simp; omega
  have i1 : (0 : Int) < (l.length : Int) := by omega
  have HX := Lib.hid hx
  have hc : (w.alloc (.cells (bc zb) 26)).cell? ⟨b, off, none⟩ = some (.int .u8 (bt l 0)) := by rw [World.cell?_alloc_lt _ _ _ hb]; exact hx 0 (by omega)
  rw [h0] at hc
  have HBB : Hid (Below w.heap.size w (w.alloc (.cells (bc zb) 26))) := (Below.refl _ _).alloc (Nat.le_refl _) _
  have hcells : ∀ W : World, Below w.heap.size w W → ∀ i, i < l.length → W.cell? ⟨b, off + i, none⟩ = some (.int .u8 (bt l i)) := fun W hW i hi => (hW.cell (p := ⟨b, off + i, none⟩) hb).trans (HX.out i hi)
  obtain ⟨l1, hl1⟩ : ∃ l1, l1 = l.drop 1 := ⟨_, rfl⟩
  obtain ⟨l2, hl2⟩ : ∃ l2, l2 = l.drop 33 := ⟨_, rfl⟩
  obtain ⟨l3, hl3⟩ : ∃ l3, l3 = l.drop 65 := ⟨_, rfl⟩
  obtain ⟨l4, hl4⟩ : ∃ l4, l4 = l.drop 73 := ⟨_, rfl⟩
  have HG : Hid (getB l = ⟨rtOf l1, rtOf l2, unnum l3, unnum l4⟩) := by show _ = _; rw [hl1, hl2, hl3, hl4]; rfl
  have c1 : ∀ W, Below w.heap.size w W → Calls Try.prog 25 #[.slice (some ⟨b, off, none⟩) l.length cap, .int .i64 1] W fun e w' => e = .returned (.agg (rc (rtOf l1))) ∧ Below W.heap.size W w' := fun W hW => by
    rw [hl1]; exact rootAt_any b off cap l 1 (by omega) (by omega) W (Nat.lt_of_lt_of_le hb hW.size) (hcells W hW)
  have c2 : ∀ W, Below w.heap.size w W → Calls Try.prog 25 #[.slice (some ⟨b, off, none⟩) l.length cap, .int .i64 33] W fun e w' => e = .returned (.agg (rc (rtOf l2))) ∧ Below W.heap.size W w' := fun W hW => by
    rw [hl2]; exact rootAt_any b off cap l 33 (by omega) (by omega) W (Nat.lt_of_lt_of_le hb hW.size) (hcells W hW)
  have c3 : ∀ W, Below w.heap.size w W → Calls Try.prog 26 #[.slice (some ⟨b, off, none⟩) l.length cap, .int .i64 65] W fun e w' => e = .returned (num (unnum l3)) ∧ w' = W := fun W hW => by
    rw [hl3]; exact numberAt_any b off cap l 65 (by omega) (by omega) W (hcells W hW)
  have c4 : ∀ W, Below w.heap.size w W → Calls Try.prog 26 #[.slice (some ⟨b, off, none⟩) l.length cap, .int .i64 73] W fun e w' => e = .returned (num (unnum l4)) ∧ w' = W := fun W hW => by
    rw [hl4]; exact numberAt_any b off cap l 73 (by omega) (by omega) W (hcells W hW)
  have HC1 := Lib.hid c1; have HC2 := Lib.hid c2; have HC3 := Lib.hid c3; have HC4 := Lib.hid c4
  clear hcells hx hB h h0 hl hl1 hl2 hl3 hl4 c1 c2 c3 c4
  go_enter Try.func13, Try.ntmps13
  go_wp2_with fail
  refine (HC1.out _ HBB.out).mono ?_
  rintro e w1 ⟨rfl, g1⟩
  have G1 := Lib.hid (belowT HBB.out g1)
  have D1 := Lib.hid g1
  clear g1 hc
  go_wp2_with fail
  refine (HC2.out _ G1.out).mono ?_
  rintro e w2 ⟨rfl, g2⟩
  have G2 := Lib.hid (belowT G1.out g2)
  have D2 := Lib.hid (belowT D1.out g2)
  clear g2
  go_wp2_with fail
  refine (HC3.out _ G2.out).mono ?_
  rintro e w3 ⟨rfl, rfl⟩
  go_wp2_with fail
  refine (HC4.out _ G2.out).mono ?_
  rintro e w3 ⟨rfl, rfl⟩
  have t3 : wrA w3 (.pointer (some ⟨w.heap.size, 0, none⟩)) 66 = true := wrA_block (by rw [D2.out.block _ (by simp)]; exact heap_alloc_last w _) (bc_size zb)
  have HT3 := Lib.hid t3
  go_wp2_with fail
  refine bodyPost_ret (results_agg2 Try.isAgg26 Try.sizeOf26 _ 2 3 rfl _ _ _ _ _ rfl rfl (ldA_stA_same HT3.out (bc_size _))) rfl ⟨?_, below_stA G2.out (Nat.le_refl _)⟩
  rw [← HE.out, HG.out]
  rfl
theorem refBlock_any (v : Value) (l : List UInt8) (w : World) (h : SlB w v l) : Calls Try.prog 13 #[v] w (BlockIs l w) := by
  cases hB : isB l with
  | true => exact refBlock_yes v l w h hB
  | false => exact refBlock_no v l w h hB
end Go.Proofs.Ytjdpndclgmdahaa
