/-
  The document's own number, root, PutBlock and PutAtt of layer 3, walked.
-/
import Derived.Test.YtjdpndclgmdahaaWireK
namespace Go.Proofs.Ytjdpndclgmdahaa
open Go.RowKit

set_option maxRecDepth 100000 in
set_option maxHeartbeats 1000000 in
theorem refRoot_any (base : Nat) (v : Value) (k : List UInt8) (r : Rt) (w : World) (hown : Own w base v k) (hbase : base ≤ w.heap.size) (hlen : k.length ≤ 1000000) :
    Calls Try.prog 20 #[v, .agg (rc r)] w fun e w' => ∃ v', e = .returned v' ∧ Own w' base v' (k ++ r.toList) ∧ Grw w v w' v' := by
  have HO := Lib.hid hown
  clear hown
  go_enter Try.func20, Try.ntmps20
  go_wp2_with fail
  go_loopw [0, 5] (fun v1 i wr => ∃ j : Nat, j ≤ 32 ∧ i = .int .i64 j ∧ Own wr base v1 (k ++ r.toList.take j) ∧ Grw (w.alloc (.cells (rc r) 23)) v wr v1) (fun _ i _ => 32 - (intOf i).toNat)
  case atStart => exact ⟨0, by omega, rfl, by simpa using own_alloc HO.out _, Grw.refl _ _⟩
  case round =>
    obtain ⟨j, hj, rfl, ho, hg⟩ := hrel
    have HO1 := Lib.hid ho
    have HG1 := Lib.hid hg
    clear ho hg
    by_cases hlt : j < 32
    · have i0 : (0 : Int) ≤ (j : Int) := by omega
      have i1 : (j : Int) < 32 := by omega
      have hblk : wr.heap[w.heap.size]? = some (.cells (rc r) 23 (0, 0)) := by
        rw [HG1.out.block (by simp) (own_ne HO.out (Nat.le_refl _))]; exact heap_alloc_last w _
      have hcell : wr.cell? ⟨w.heap.size, j, none⟩ = some (.int .u8 (at8 r j)) := by rw [cell_of_row _ _ j _ _ _ hblk, rc_get r j hlt]
      have HT : Hid (r.toList.take (j + 1) = r.toList.take j ++ [r.toList.getD j 0]) := by
        show _ = _
        rw [List.take_succ_eq_append_getElem (by rw [rt_length]; exact hlt), getD_in _ (by rw [rt_length]; exact hlt)]
      have HB : Hid (base ≤ wr.heap.size) := by have := HG1.out.1.size; simp at this; show _ ≤ _; omega
      have HL : Hid ((k ++ r.toList.take j).length + 1 ≤ 140737488355328) := by
        show _ ≤ _
        rw [List.length_append, List.length_take]
        omega
      clear hblk
      go_wp2_with (at_builtin; refine wpList_append_bytes _ rfl (.tmp 10) (.tmp 14) rfl base _ _ rfl (own_alloc HO1.out _) _ [r.toList.getD j 0] rfl (slB_lit _ [r.toList.getD j 0] _ _ _ rfl (b8_one1 _ _ rfl)) HL.out (by have := HB.out; simp; omega) ?_; intro v3 w3 ho3 hg3)
      go_roundw
      case rel => exact ⟨j + 1, by omega, by go_num, by rw [HT.out, ← List.append_assoc]; exact ho3, HG1.out.trans hg3.alloc⟩
      case measure => simp [intOf]; omega
    · obtain rfl : j = 32 := by omega
      go_wp2_with fail
      go_ret
      exact ⟨_, rfl, by have := HO1.out; rwa [List.take_of_length_le (by rw [rt_length]; omega)] at this, HG1.out.alloc⟩

set_option maxRecDepth 100000 in
set_option maxHeartbeats 2000000 in
theorem refNumber_any (base : Nat) (v : Value) (k : List UInt8) (n : UInt64) (w : World) (hown : Own w base v k) (hbase : base ≤ w.heap.size) (hlen : k.length ≤ 1000000) :
    Calls Try.prog 21 #[v, num n] w fun e w' => ∃ v', e = .returned v' ∧ Own w' base v' (k ++ num8 n) ∧ Grw w v w' v' := by
  have HO := Lib.hid hown
  clear hown
  have hn := n.toNat_lt
  unfold num
  go_enter Try.func21, Try.ntmps21
  go_wp2_with fail
  go_loopw [0, 5] (fun v1 i wr => ∃ j : Nat, j ≤ 8 ∧ i = .int .i64 j ∧ Own wr base v1 (k ++ (num8 n).take j) ∧ Grw w v wr v1) (fun _ i _ => 8 - (intOf i).toNat)
  case atStart => exact ⟨0, by omega, rfl, by simpa using HO.out, Grw.refl _ _⟩
  case round =>
    obtain ⟨j, hj, rfl, ho, hg⟩ := hrel
    have HO1 := Lib.hid ho
    have HG1 := Lib.hid hg
    clear ho hg
    by_cases hlt : j < 8
    · obtain ⟨wo, rfl⟩ : ∃ wo : World, wo = wr := ⟨_, rfl⟩
      have HT := Lib.hid (num8_take n j hlt)
      have HB : Hid (base ≤ wo.heap.size) := Nat.le_trans hbase HG1.out.1.size
      have HL : Hid ((k ++ (num8 n).take j).length + 1 ≤ 140737488355328) := by
        show _ ≤ _
        rw [List.length_append, List.length_take]
        omega
      go_wp2_with fail
      go_loopw [6, 7] (fun by' kk wr => ∃ m : Nat, j ≤ m ∧ m ≤ 7 ∧ kk = .int .i64 m ∧ by' = .int .u64 ((256 ^ (m - j) : Nat) : Int) ∧ wr = wo) (fun _ kk _ => 7 - (intOf kk).toNat)
      case atStart => exact ⟨j, Nat.le_refl _, by omega, rfl, by rw [Nat.sub_self]; rfl, rfl⟩
      case round =>
        obtain ⟨m, hm1, hm2, rfl, rfl, rfl⟩ := hrel
        by_cases hm7 : m < 7
        · have E1 : Hid ((256 : Nat) ^ (m + 1 - j) = 256 ^ (m - j) * 256) := by show _ = _; rw [show m + 1 - j = (m - j) + 1 by omega, Nat.pow_succ]
          have u1 : (256 : Nat) ^ (m - j) ≤ 281474976710656 := by
            have := Nat.pow_le_pow_right (show 0 < 256 by omega) (show m - j ≤ 6 by omega)
            exact this
          generalize (256 : Nat) ^ (m - j) = N at *
          go_wp2_with fail
          refine ⟨⟨m + 1, by omega, by omega, by go_num, by rw [E1.out]; exact congrArg _ (by omega), trivial⟩, by simp [intOf]; omega⟩
        · obtain rfl : m = 7 := by omega
          have u0 : 0 < (256 : Nat) ^ (7 - j) := Nat.pow_pos (by omega)
          generalize (256 : Nat) ^ (7 - j) = N at *
          obtain ⟨M, hM⟩ : ∃ M, M = n.toNat / N := ⟨_, rfl⟩
          have hMl : M < 18446744073709551616 := by rw [hM]; exact Nat.lt_of_le_of_lt (Nat.div_le_self _ _) hn
          have hq : IntKind.u64.wrap (((n.toNat : Nat) : Int) / (N : Int)) = (M : Int) := by
            rw [hM, ← Int.natCast_ediv]
            exact wraps_u64 _ (by omega) (by rw [hM] at hMl; omega)
          have HNN : Hid (n.toNat / N = M) := hM.symm
          clear hM
          have p1 : (1 : Int) ≤ (N : Int) := by omega
          have p2 : ((N : Int) == 0) = false := by simp; omega
          have HX : Hid (((M : Nat) : Int) % 256 = ((UInt8.ofNat (M % 256)).toNat : Int)) := by
            show _ = _
            rw [UInt8.toNat_ofNat', Nat.mod_eq_of_lt (show M % 256 < 2 ^ 8 by omega)]
            omega
          go_wp2_with (at_builtin; refine wpList_append_bytes _ rfl (.tmp 19) (.tmp 25) rfl base _ _ rfl (own_alloc HO1.out _) _ [UInt8.ofNat (M % 256)] rfl (slB_lit _ [UInt8.ofNat (M % 256)] _ _ _ rfl (b8_one1 _ _ HX.out)) HL.out (by have := HB.out; simp; omega) ?_; intro v3 w3 ho3 hg3)
          go_roundw
          case rel => exact ⟨j + 1, by omega, by go_num, by rw [HT.out, ← List.append_assoc, HNN.out]; exact ho3, HG1.out.trans hg3.alloc⟩
          case measure => simp [intOf]; omega
    · obtain rfl : j = 8 := by omega
      go_wp2_with fail
      go_ret
      exact ⟨_, rfl, by have := HO1.out; rwa [show (num8 n).take 8 = num8 n from List.take_of_length_le (by rw [num8_length]; omega)] at this, HG1.out⟩
end Go.Proofs.Ytjdpndclgmdahaa
