/-
  The law WirePlaces, walked.
-/
import Derived.Test.YtjdpndclgmdahaaWireG
namespace Go.Proofs.Ytjdpndclgmdahaa
open Go.RowKit

theorem bt_right (k l : List UInt8) (i : Nat) : bt (k ++ l) (k.length + i) = bt l i := by
  unfold bt
  rw [List.getD_eq_getElem?_getD, List.getElem?_append_right (by omega), Nat.add_sub_cancel_left, ← List.getD_eq_getElem?_getD]
theorem bt_left (k l : List UInt8) (i : Nat) (h : i < k.length) : bt (k ++ l) i = bt k i := by
  unfold bt
  rw [List.getD_eq_getElem?_getD, List.getElem?_append_left h, ← List.getD_eq_getElem?_getD]
theorem bt_num8 (n : UInt64) (i : Nat) (h : i < 8) : bt (num8 n) i = ((n.toNat / 256 ^ (7 - i) % 256 : Nat) : Int) := by
  rw [num8, dgs_get 8 n.toNat i h, show 8 - 1 - i = 7 - i by omega]
theorem putB_slot (x : Blk) (i : Nat) (h : i < 8) : bt (putB x) (65 + i) = ((x.slot.toNat / 256 ^ (7 - i) % 256 : Nat) : Int) := by
  have e : putB x = (1 :: (x.root.toList ++ x.parent.toList)) ++ (num8 x.slot ++ num8 x.just) := by simp [putB]
  have hl : (1 :: (x.root.toList ++ x.parent.toList)).length = 65 := by simp
  have := bt_right (1 :: (x.root.toList ++ x.parent.toList)) (num8 x.slot ++ num8 x.just) i
  rw [hl] at this
  rw [e, this, bt_left _ _ i (by rw [num8_length]; exact h), bt_num8 _ i h]
theorem putA_epoch (y : At) (i : Nat) (h : i < 8) : bt (putA y) (83 + i) = ((y.target.epoch.toNat / 256 ^ (7 - i) % 256 : Nat) : Int) := by
  have e : putA y = (UInt8.ofNat 2 :: UInt8.ofNat (y.val.toNat / 256) :: UInt8.ofNat (y.val.toNat % 256) :: (num8 y.slot ++ (y.head.toList ++ putC y.source))) ++ (num8 y.target.epoch ++ y.target.root.toList) := by simp [putA, putC]
  have hl : (UInt8.ofNat 2 :: UInt8.ofNat (y.val.toNat / 256) :: UInt8.ofNat (y.val.toNat % 256) :: (num8 y.slot ++ (y.head.toList ++ putC y.source))).length = 83 := by simp [num8_length, putC_length]
  have := bt_right (UInt8.ofNat 2 :: UInt8.ofNat (y.val.toNat / 256) :: UInt8.ofNat (y.val.toNat % 256) :: (num8 y.slot ++ (y.head.toList ++ putC y.source))) (num8 y.target.epoch ++ y.target.root.toList) i
  rw [hl] at this
  rw [e, this, bt_left _ _ i (by rw [num8_length]; exact h), bt_num8 _ i h]
theorem div_step (n j i : Nat) (h : i ≤ j) : n / 256 ^ (j + 1 - i) = n / 256 ^ (j - i) / 256 := by
  rw [Nat.div_div_eq_div_mul, show j + 1 - i = (j - i) + 1 by omega, Nat.pow_succ]

set_option maxRecDepth 100000 in
set_option maxHeartbeats 4000000 in
theorem wirePlaces_in (x : Blk) (y : At) (i : Nat) (w : World) (hi : i < 8) (hok : okV y.val = true) :
    Calls Try.prog 7 #[.agg (bc x), .agg (ac y), .int .i64 (i : Int)] w fun e w' => e = .returned (.bool true) ∧ Below w.heap.size w w' := by
  have cP := fun W => putAtt_any y W
  rw [hok] at cP
  have hp : putAs y = putA y := by unfold putAs; rw [if_pos hok]
  rw [hp] at cP
  have HCP := Lib.hid cP
  clear cP hp hok
  have z1 : decide ((i : Int) < 0) = false := by simp
  have z2 : decide ((7 : Int) < (i : Int)) = false := by simp; omega
  have HX := Lib.hid (putB_slot x i hi)
  have HY := Lib.hid (putA_epoch y i hi)
  go_enter Try.func7, Try.ntmps7
  go_wp2_with fail
  refine (awake_any _).mono ?_
  rintro e w0 ⟨rfl, g0⟩
  have G00 : Below w.heap.size w ((w.alloc (.cells (bc x) 26)).alloc (.cells (ac y) 30)) := ((Below.refl w.heap.size w).alloc (Nat.le_refl _) _).alloc (by simp) _
  have gx0 : w0.heap[w.heap.size]? = some (.cells (bc x) 26 (0, 0)) := by rw [g0.block _ (by simp; omega)]; exact heap_alloc2_old w _ _
  have gy0 : w0.heap[w.heap.size + 1]? = some (.cells (ac y) 30 (0, 0)) := by rw [g0.block _ (by simp)]; exact heap_alloc2_new w _ _
  have lx0 : ldA w0 (.pointer (some ⟨w.heap.size, 0, none⟩)) 66 = some (bc x) := ldA_block gx0 (bc_size _)
  have G0 := Lib.hid (belowT G00 g0)
  have GX0 := Lib.hid gx0
  have GY0 := Lib.hid gy0
  clear gx0 gy0 g0 G00
  go_wp2_with fail
  refine (putBlock_any x _).mono ?_
  rintro e w1 ⟨v1, rfl, hs1, hb1⟩
  obtain ⟨g1, o1, c1, hv1, hc1, hl1, hx1⟩ := slB_ne hs1 (by rw [putB_length]; omega)
  rw [putB_length] at hv1
  subst hv1
  have x1 := hx1 (65 + i) (by rw [putB_length]; omega)
  rw [HX.out] at x1
  have HX1 := Lib.hid x1
  have GX1 : Hid (w1.heap[w.heap.size]? = some (.cells (bc x) 26 (0, 0))) := by show _ = _; rw [hb1.block _ (Array.getElem?_eq_some_iff.1 GX0.out).1]; exact GX0.out
  have GY1 : Hid (w1.heap[w.heap.size + 1]? = some (.cells (ac y) 30 (0, 0))) := by show _ = _; rw [hb1.block _ (Array.getElem?_eq_some_iff.1 GY0.out).1]; exact GY0.out
  have ly1 : ldA w1 (.pointer (some ⟨w.heap.size + 1, 0, none⟩)) 100 = some (ac y) := ldA_block GY1.out (ac_size _)
  have G1 := Lib.hid (belowT G0.out hb1)
  clear hc1 hl1 hx1 hb1 hs1 x1 lx0
  go_wp2_with fail
  refine (HCP.out _).mono ?_
  rintro e w2 ⟨v2, rfl, hs2, hb2⟩
  obtain ⟨g2, o2, c2, hv2, hc2, hl2, hx2⟩ := slB_ne hs2 (by rw [putA_length]; omega)
  rw [putA_length] at hv2
  subst hv2
  have x2 := hx2 (83 + i) (by rw [putA_length]; omega)
  rw [HY.out] at x2
  have x1 : w2.cell? ⟨g1, o1 + (65 + i), none⟩ = _ := (hb2.cell (p := ⟨g1, o1 + (65 + i), none⟩) (block_lt_of_cell HX1.out)).trans HX1.out
  have gx2 : w2.heap[w.heap.size]? = some (.cells (bc x) 26 (0, 0)) := by rw [hb2.block _ (Array.getElem?_eq_some_iff.1 GX1.out).1]; exact GX1.out
  have gy2 : w2.heap[w.heap.size + 1]? = some (.cells (ac y) 30 (0, 0)) := by rw [hb2.block _ (Array.getElem?_eq_some_iff.1 GY1.out).1]; exact GY1.out
  have n2 := blk_slot gx2
  have m2 := att_tepoch gy2
  have G2 := Lib.hid (belowT G1.out hb2)
  have HX1' := Lib.hid x1
  have HX2 := Lib.hid x2
  clear hc2 hl2 hx2 hb2 hs2 gx2 gy2 ly1 x1 x2
  go_wp2_with fail
  go_loopw [11, 12, 13] (fun n m k wr => ∃ j : Nat, i ≤ j ∧ j ≤ 7 ∧ k = .int .i64 j ∧ n = .int .u64 ((x.slot.toNat / 256 ^ (j - i) : Nat) : Int) ∧ m = .int .u64 ((y.target.epoch.toNat / 256 ^ (j - i) : Nat) : Int) ∧ wr = w2) (fun _ _ k _ => 7 - (intOf k).toNat)
  case atStart => exact ⟨i, Nat.le_refl _, by omega, rfl, by rw [Nat.sub_self, Nat.pow_zero, Nat.div_one], by rw [Nat.sub_self, Nat.pow_zero, Nat.div_one], rfl⟩
  case round =>
    obtain ⟨j, hj1, hj2, rfl, rfl, rfl, rfl⟩ := hrel
    by_cases hlt : j < 7
    · have e1 := div_step x.slot.toNat j i hj1
      have e2 := div_step y.target.epoch.toNat j i hj1
      have E1 := Lib.hid e1
      have E2 := Lib.hid e2
      have u1 : x.slot.toNat / 256 ^ (j - i) < 18446744073709551616 := Nat.lt_of_le_of_lt (Nat.div_le_self _ _) x.slot.toNat_lt
      have u2 : y.target.epoch.toNat / 256 ^ (j - i) < 18446744073709551616 := Nat.lt_of_le_of_lt (Nat.div_le_self _ _) y.target.epoch.toNat_lt
      clear e1 e2
      generalize x.slot.toNat / 256 ^ (j - i) = N at *
      generalize y.target.epoch.toNat / 256 ^ (j - i) = M at *
      go_wp2_with fail
      refine ⟨⟨j + 1, by omega, by omega, by go_num, by rw [E1.out]; exact congrArg _ (by omega), by rw [E2.out]; exact congrArg _ (by omega), trivial⟩, by simp [intOf]; omega⟩
    · obtain rfl : j = 7 := by omega
      have x1 := HX1'.out
      have x2 := HX2.out
      generalize x.slot.toNat / 256 ^ (7 - i) = N at *
      generalize y.target.epoch.toNat / 256 ^ (7 - i) = M at *
      go_wp2_with fail
      go_ret
      exact ⟨rfl, G2.out⟩
set_option maxRecDepth 100000 in
set_option maxHeartbeats 4000000 in
theorem wirePlaces_no (x : Blk) (y : At) (i : Nat) (w : World) (hi : i < 8) (hok : okV y.val = false) :
    Calls Try.prog 7 #[.agg (bc x), .agg (ac y), .int .i64 (i : Int)] w fun e w' => e = .returned (.bool true) ∧ Below w.heap.size w w' := by
  have cP := fun W => putAtt_no y W hok
  have HCP := Lib.hid cP
  clear cP hok
  have z1 : decide ((i : Int) < 0) = false := by simp
  have z2 : decide ((7 : Int) < (i : Int)) = false := by simp; omega
  have HX := Lib.hid (putB_slot x i hi)
  go_enter Try.func7, Try.ntmps7
  go_wp2_with fail
  refine (awake_any _).mono ?_
  rintro e w0 ⟨rfl, g0⟩
  have G00 : Below w.heap.size w ((w.alloc (.cells (bc x) 26)).alloc (.cells (ac y) 30)) := ((Below.refl w.heap.size w).alloc (Nat.le_refl _) _).alloc (by simp) _
  have gx0 : w0.heap[w.heap.size]? = some (.cells (bc x) 26 (0, 0)) := by rw [g0.block _ (by simp; omega)]; exact heap_alloc2_old w _ _
  have gy0 : w0.heap[w.heap.size + 1]? = some (.cells (ac y) 30 (0, 0)) := by rw [g0.block _ (by simp)]; exact heap_alloc2_new w _ _
  have lx0 : ldA w0 (.pointer (some ⟨w.heap.size, 0, none⟩)) 66 = some (bc x) := ldA_block gx0 (bc_size _)
  have G0 := Lib.hid (belowT G00 g0)
  have GX0 := Lib.hid gx0
  have GY0 := Lib.hid gy0
  clear gx0 gy0 g0 G00
  go_wp2_with fail
  refine (putBlock_any x _).mono ?_
  rintro e w1 ⟨v1, rfl, hs1, hb1⟩
  obtain ⟨g1, o1, c1, hv1, hc1, hl1, hx1⟩ := slB_ne hs1 (by rw [putB_length]; omega)
  rw [putB_length] at hv1
  subst hv1
  have x1 := hx1 (65 + i) (by rw [putB_length]; omega)
  rw [HX.out] at x1
  have HX1 := Lib.hid x1
  have GX1 : Hid (w1.heap[w.heap.size]? = some (.cells (bc x) 26 (0, 0))) := by show _ = _; rw [hb1.block _ (Array.getElem?_eq_some_iff.1 GX0.out).1]; exact GX0.out
  have GY1 : Hid (w1.heap[w.heap.size + 1]? = some (.cells (ac y) 30 (0, 0))) := by show _ = _; rw [hb1.block _ (Array.getElem?_eq_some_iff.1 GY0.out).1]; exact GY0.out
  have ly1 : ldA w1 (.pointer (some ⟨w.heap.size + 1, 0, none⟩)) 100 = some (ac y) := ldA_block GY1.out (ac_size _)
  have G1 := Lib.hid (belowT G0.out hb1)
  clear hc1 hl1 hx1 hb1 hs1 x1 lx0
  go_wp2_with fail
  refine (HCP.out _).mono ?_
  rintro e w2 ⟨rfl, hb2⟩
  have x1 : w2.cell? ⟨g1, o1 + (65 + i), none⟩ = _ := (hb2.cell (p := ⟨g1, o1 + (65 + i), none⟩) (block_lt_of_cell HX1.out)).trans HX1.out
  have gx2 : w2.heap[w.heap.size]? = some (.cells (bc x) 26 (0, 0)) := by rw [hb2.block _ (Array.getElem?_eq_some_iff.1 GX1.out).1]; exact GX1.out
  have gy2 : w2.heap[w.heap.size + 1]? = some (.cells (ac y) 30 (0, 0)) := by rw [hb2.block _ (Array.getElem?_eq_some_iff.1 GY1.out).1]; exact GY1.out
  have n2 := blk_slot gx2
  have m2 := att_tepoch gy2
  have G2 := Lib.hid (belowT G1.out hb2)
  have HX1' := Lib.hid x1
  clear hb2 gx2 gy2 ly1 x1
  go_wp2_with fail
  go_loopw [11, 12, 13] (fun n m k wr => ∃ j : Nat, i ≤ j ∧ j ≤ 7 ∧ k = .int .i64 j ∧ n = .int .u64 ((x.slot.toNat / 256 ^ (j - i) : Nat) : Int) ∧ m = .int .u64 ((y.target.epoch.toNat / 256 ^ (j - i) : Nat) : Int) ∧ wr = w2) (fun _ _ k _ => 7 - (intOf k).toNat)
  case atStart => exact ⟨i, Nat.le_refl _, by omega, rfl, by rw [Nat.sub_self, Nat.pow_zero, Nat.div_one], by rw [Nat.sub_self, Nat.pow_zero, Nat.div_one], rfl⟩
  case round =>
    obtain ⟨j, hj1, hj2, rfl, rfl, rfl, rfl⟩ := hrel
    by_cases hlt : j < 7
    · have e1 := div_step x.slot.toNat j i hj1
      have e2 := div_step y.target.epoch.toNat j i hj1
      have E1 := Lib.hid e1
      have E2 := Lib.hid e2
      have u1 : x.slot.toNat / 256 ^ (j - i) < 18446744073709551616 := Nat.lt_of_le_of_lt (Nat.div_le_self _ _) x.slot.toNat_lt
      have u2 : y.target.epoch.toNat / 256 ^ (j - i) < 18446744073709551616 := Nat.lt_of_le_of_lt (Nat.div_le_self _ _) y.target.epoch.toNat_lt
      clear e1 e2
      generalize x.slot.toNat / 256 ^ (j - i) = N at *
      generalize y.target.epoch.toNat / 256 ^ (j - i) = M at *
      go_wp2_with fail
      refine ⟨⟨j + 1, by omega, by omega, by go_num, by rw [E1.out]; exact congrArg _ (by omega), by rw [E2.out]; exact congrArg _ (by omega), trivial⟩, by simp [intOf]; omega⟩
    · obtain rfl : j = 7 := by omega
      have x1 := HX1'.out
      generalize x.slot.toNat / 256 ^ (7 - i) = N at *
      generalize y.target.epoch.toNat / 256 ^ (7 - i) = M at *
      go_wp2_with fail
      go_ret
      exact ⟨rfl, G2.out⟩

set_option maxRecDepth 100000 in
set_option maxHeartbeats 4000000 in
theorem wirePlaces_farL (x : Blk) (y : At) (i : Int) (w : World) (z1 : decide (i < 0) = true) (hok : okV y.val = true) :
    Calls Try.prog 7 #[.agg (bc x), .agg (ac y), .int .i64 i] w fun e w' => e = .returned (.bool true) ∧ Below w.heap.size w w' := by
  have cP := fun W => putAtt_any y W
  rw [hok] at cP
  have hp : putAs y = putA y := by unfold putAs; rw [if_pos hok]
  rw [hp] at cP
  have HCP := Lib.hid cP
  clear cP hp hok
  go_enter Try.func7, Try.ntmps7
  go_wp2_with fail
  refine (awake_any _).mono ?_
  rintro e w0 ⟨rfl, g0⟩
  have G00 : Below w.heap.size w ((w.alloc (.cells (bc x) 26)).alloc (.cells (ac y) 30)) := ((Below.refl w.heap.size w).alloc (Nat.le_refl _) _).alloc (by simp) _
  have gx0 : w0.heap[w.heap.size]? = some (.cells (bc x) 26 (0, 0)) := by rw [g0.block _ (by simp; omega)]; exact heap_alloc2_old w _ _
  have gy0 : w0.heap[w.heap.size + 1]? = some (.cells (ac y) 30 (0, 0)) := by rw [g0.block _ (by simp)]; exact heap_alloc2_new w _ _
  have lx0 : ldA w0 (.pointer (some ⟨w.heap.size, 0, none⟩)) 66 = some (bc x) := ldA_block gx0 (bc_size _)
  have G0 := Lib.hid (belowT G00 g0)
  have GX0 := Lib.hid gx0
  have GY0 := Lib.hid gy0
  clear gx0 gy0 g0 G00
  go_wp2_with fail
  refine (putBlock_any x _).mono ?_
  rintro e w1 ⟨v1, rfl, hs1, hb1⟩
  obtain ⟨g1, o1, c1, hv1, hc1, hl1, hx1⟩ := slB_ne hs1 (by rw [putB_length]; omega)
  rw [putB_length] at hv1
  subst hv1
  have GX1 : Hid (w1.heap[w.heap.size]? = some (.cells (bc x) 26 (0, 0))) := by show _ = _; rw [hb1.block _ (Array.getElem?_eq_some_iff.1 GX0.out).1]; exact GX0.out
  have GY1 : Hid (w1.heap[w.heap.size + 1]? = some (.cells (ac y) 30 (0, 0))) := by show _ = _; rw [hb1.block _ (Array.getElem?_eq_some_iff.1 GY0.out).1]; exact GY0.out
  have ly1 : ldA w1 (.pointer (some ⟨w.heap.size + 1, 0, none⟩)) 100 = some (ac y) := ldA_block GY1.out (ac_size _)
  have G1 := Lib.hid (belowT G0.out hb1)
  clear hc1 hl1 hx1 hb1 hs1 lx0
  go_wp2_with fail
  refine (HCP.out _).mono ?_
  rintro e w2 ⟨v2, rfl, hs2, hb2⟩
  obtain ⟨g2, o2, c2, hv2, hc2, hl2, hx2⟩ := slB_ne hs2 (by rw [putA_length]; omega)
  rw [putA_length] at hv2
  subst hv2
  have G2 := Lib.hid (belowT G1.out hb2)
  clear hc2 hl2 hx2 hb2 hs2 ly1
  go_wp2_with fail
  go_ret
  exact ⟨rfl, G2.out⟩

set_option maxRecDepth 100000 in
set_option maxHeartbeats 4000000 in
theorem wirePlaces_farG (x : Blk) (y : At) (i : Int) (w : World) (z1 : decide (i < 0) = false) (z2 : decide ((7 : Int) < i) = true) (hok : okV y.val = true) :
    Calls Try.prog 7 #[.agg (bc x), .agg (ac y), .int .i64 i] w fun e w' => e = .returned (.bool true) ∧ Below w.heap.size w w' := by
  have cP := fun W => putAtt_any y W
  rw [hok] at cP
  have hp : putAs y = putA y := by unfold putAs; rw [if_pos hok]
  rw [hp] at cP
  have HCP := Lib.hid cP
  clear cP hp hok
  go_enter Try.func7, Try.ntmps7
  go_wp2_with fail
  refine (awake_any _).mono ?_
  rintro e w0 ⟨rfl, g0⟩
  have G00 : Below w.heap.size w ((w.alloc (.cells (bc x) 26)).alloc (.cells (ac y) 30)) := ((Below.refl w.heap.size w).alloc (Nat.le_refl _) _).alloc (by simp) _
  have gx0 : w0.heap[w.heap.size]? = some (.cells (bc x) 26 (0, 0)) := by rw [g0.block _ (by simp; omega)]; exact heap_alloc2_old w _ _
  have gy0 : w0.heap[w.heap.size + 1]? = some (.cells (ac y) 30 (0, 0)) := by rw [g0.block _ (by simp)]; exact heap_alloc2_new w _ _
  have lx0 : ldA w0 (.pointer (some ⟨w.heap.size, 0, none⟩)) 66 = some (bc x) := ldA_block gx0 (bc_size _)
  have G0 := Lib.hid (belowT G00 g0)
  have GX0 := Lib.hid gx0
  have GY0 := Lib.hid gy0
  clear gx0 gy0 g0 G00
  go_wp2_with fail
  refine (putBlock_any x _).mono ?_
  rintro e w1 ⟨v1, rfl, hs1, hb1⟩
  obtain ⟨g1, o1, c1, hv1, hc1, hl1, hx1⟩ := slB_ne hs1 (by rw [putB_length]; omega)
  rw [putB_length] at hv1
  subst hv1
  have GX1 : Hid (w1.heap[w.heap.size]? = some (.cells (bc x) 26 (0, 0))) := by show _ = _; rw [hb1.block _ (Array.getElem?_eq_some_iff.1 GX0.out).1]; exact GX0.out
  have GY1 : Hid (w1.heap[w.heap.size + 1]? = some (.cells (ac y) 30 (0, 0))) := by show _ = _; rw [hb1.block _ (Array.getElem?_eq_some_iff.1 GY0.out).1]; exact GY0.out
  have ly1 : ldA w1 (.pointer (some ⟨w.heap.size + 1, 0, none⟩)) 100 = some (ac y) := ldA_block GY1.out (ac_size _)
  have G1 := Lib.hid (belowT G0.out hb1)
  clear hc1 hl1 hx1 hb1 hs1 lx0
  go_wp2_with fail
  refine (HCP.out _).mono ?_
  rintro e w2 ⟨v2, rfl, hs2, hb2⟩
  obtain ⟨g2, o2, c2, hv2, hc2, hl2, hx2⟩ := slB_ne hs2 (by rw [putA_length]; omega)
  rw [putA_length] at hv2
  subst hv2
  have G2 := Lib.hid (belowT G1.out hb2)
  clear hc2 hl2 hx2 hb2 hs2 ly1
  go_wp2_with fail
  go_ret
  exact ⟨rfl, G2.out⟩

set_option maxRecDepth 100000 in
set_option maxHeartbeats 4000000 in
theorem wirePlaces_farnoL (x : Blk) (y : At) (i : Int) (w : World) (z1 : decide (i < 0) = true) (hok : okV y.val = false) :
    Calls Try.prog 7 #[.agg (bc x), .agg (ac y), .int .i64 i] w fun e w' => e = .returned (.bool true) ∧ Below w.heap.size w w' := by
  have cP := fun W => putAtt_no y W hok
  have HCP := Lib.hid cP
  clear cP hok
  go_enter Try.func7, Try.ntmps7
  go_wp2_with fail
  refine (awake_any _).mono ?_
  rintro e w0 ⟨rfl, g0⟩
  have G00 : Below w.heap.size w ((w.alloc (.cells (bc x) 26)).alloc (.cells (ac y) 30)) := ((Below.refl w.heap.size w).alloc (Nat.le_refl _) _).alloc (by simp) _
  have gx0 : w0.heap[w.heap.size]? = some (.cells (bc x) 26 (0, 0)) := by rw [g0.block _ (by simp; omega)]; exact heap_alloc2_old w _ _
  have gy0 : w0.heap[w.heap.size + 1]? = some (.cells (ac y) 30 (0, 0)) := by rw [g0.block _ (by simp)]; exact heap_alloc2_new w _ _
  have lx0 : ldA w0 (.pointer (some ⟨w.heap.size, 0, none⟩)) 66 = some (bc x) := ldA_block gx0 (bc_size _)
  have G0 := Lib.hid (belowT G00 g0)
  have GX0 := Lib.hid gx0
  have GY0 := Lib.hid gy0
  clear gx0 gy0 g0 G00
  go_wp2_with fail
  refine (putBlock_any x _).mono ?_
  rintro e w1 ⟨v1, rfl, hs1, hb1⟩
  obtain ⟨g1, o1, c1, hv1, hc1, hl1, hx1⟩ := slB_ne hs1 (by rw [putB_length]; omega)
  rw [putB_length] at hv1
  subst hv1
  have GX1 : Hid (w1.heap[w.heap.size]? = some (.cells (bc x) 26 (0, 0))) := by show _ = _; rw [hb1.block _ (Array.getElem?_eq_some_iff.1 GX0.out).1]; exact GX0.out
  have GY1 : Hid (w1.heap[w.heap.size + 1]? = some (.cells (ac y) 30 (0, 0))) := by show _ = _; rw [hb1.block _ (Array.getElem?_eq_some_iff.1 GY0.out).1]; exact GY0.out
  have ly1 : ldA w1 (.pointer (some ⟨w.heap.size + 1, 0, none⟩)) 100 = some (ac y) := ldA_block GY1.out (ac_size _)
  have G1 := Lib.hid (belowT G0.out hb1)
  clear hc1 hl1 hx1 hb1 hs1 lx0
  go_wp2_with fail
  refine (HCP.out _).mono ?_
  rintro e w2 ⟨rfl, hb2⟩
  have G2 := Lib.hid (belowT G1.out hb2)
  clear hb2 ly1
  go_wp2_with fail
  go_ret
  exact ⟨rfl, G2.out⟩

set_option maxRecDepth 100000 in
set_option maxHeartbeats 4000000 in
theorem wirePlaces_farnoG (x : Blk) (y : At) (i : Int) (w : World) (z1 : decide (i < 0) = false) (z2 : decide ((7 : Int) < i) = true) (hok : okV y.val = false) :
    Calls Try.prog 7 #[.agg (bc x), .agg (ac y), .int .i64 i] w fun e w' => e = .returned (.bool true) ∧ Below w.heap.size w w' := by
  have cP := fun W => putAtt_no y W hok
  have HCP := Lib.hid cP
  clear cP hok
  go_enter Try.func7, Try.ntmps7
  go_wp2_with fail
  refine (awake_any _).mono ?_
  rintro e w0 ⟨rfl, g0⟩
  have G00 : Below w.heap.size w ((w.alloc (.cells (bc x) 26)).alloc (.cells (ac y) 30)) := ((Below.refl w.heap.size w).alloc (Nat.le_refl _) _).alloc (by simp) _
  have gx0 : w0.heap[w.heap.size]? = some (.cells (bc x) 26 (0, 0)) := by rw [g0.block _ (by simp; omega)]; exact heap_alloc2_old w _ _
  have gy0 : w0.heap[w.heap.size + 1]? = some (.cells (ac y) 30 (0, 0)) := by rw [g0.block _ (by simp)]; exact heap_alloc2_new w _ _
  have lx0 : ldA w0 (.pointer (some ⟨w.heap.size, 0, none⟩)) 66 = some (bc x) := ldA_block gx0 (bc_size _)
  have G0 := Lib.hid (belowT G00 g0)
  have GX0 := Lib.hid gx0
  have GY0 := Lib.hid gy0
  clear gx0 gy0 g0 G00
  go_wp2_with fail
  refine (putBlock_any x _).mono ?_
  rintro e w1 ⟨v1, rfl, hs1, hb1⟩
  obtain ⟨g1, o1, c1, hv1, hc1, hl1, hx1⟩ := slB_ne hs1 (by rw [putB_length]; omega)
  rw [putB_length] at hv1
  subst hv1
  have GX1 : Hid (w1.heap[w.heap.size]? = some (.cells (bc x) 26 (0, 0))) := by show _ = _; rw [hb1.block _ (Array.getElem?_eq_some_iff.1 GX0.out).1]; exact GX0.out
  have GY1 : Hid (w1.heap[w.heap.size + 1]? = some (.cells (ac y) 30 (0, 0))) := by show _ = _; rw [hb1.block _ (Array.getElem?_eq_some_iff.1 GY0.out).1]; exact GY0.out
  have ly1 : ldA w1 (.pointer (some ⟨w.heap.size + 1, 0, none⟩)) 100 = some (ac y) := ldA_block GY1.out (ac_size _)
  have G1 := Lib.hid (belowT G0.out hb1)
  clear hc1 hl1 hx1 hb1 hs1 lx0
  go_wp2_with fail
  refine (HCP.out _).mono ?_
  rintro e w2 ⟨rfl, hb2⟩
  have G2 := Lib.hid (belowT G1.out hb2)
  clear hb2 ly1
  go_wp2_with fail
  go_ret
  exact ⟨rfl, G2.out⟩

theorem wirePlaces_walk (x : Blk) (y : At) (i : Int) (w : World) (_ : (Lit.int .i64 i).wf = true) :
    Calls Try.prog 7 #[.agg (bc x), .agg (ac y), .int .i64 i] w fun e w' => e = .returned (.bool true) ∧ Below w.heap.size w w' := by
  by_cases h1 : i < 0
  · have z1 : decide (i < 0) = true := by simpa using h1
    cases hok : okV y.val with
    | true => exact wirePlaces_farL x y i w z1 hok
    | false => exact wirePlaces_farnoL x y i w z1 hok
  · have z1 : decide (i < 0) = false := by simpa using h1
    by_cases h2 : 7 < i
    · have z2 : decide ((7 : Int) < i) = true := by simpa using h2
      cases hok : okV y.val with
      | true => exact wirePlaces_farG x y i w z1 z2 hok
      | false => exact wirePlaces_farnoG x y i w z1 z2 hok
    · obtain ⟨n, rfl⟩ := Int.eq_ofNat_of_zero_le (show 0 ≤ i by omega)
      cases hok : okV y.val with
      | true => exact wirePlaces_in x y n w (by omega) hok
      | false => exact wirePlaces_no x y n w (by omega) hok
end Go.Proofs.Ytjdpndclgmdahaa
