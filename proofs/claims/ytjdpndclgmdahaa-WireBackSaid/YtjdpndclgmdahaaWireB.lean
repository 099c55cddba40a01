/-
  Package wire: PutAtt, walked.
-/
import Derived.Test.YtjdpndclgmdahaaWireA
namespace Go.Proofs.Ytjdpndclgmdahaa
open Go.RowKit

set_option maxRecDepth 100000 in
set_option maxHeartbeats 2000000 in
theorem putAtt_yes (x : At) (w : World) (h : okV x.val = true) :
    Calls Try.prog 10 #[.agg (ac x)] w fun e w' => ∃ v, e = .returned (.tuple #[v, .bool true]) ∧ Own w' w.heap.size v (putA x) ∧ Below w.heap.size w w' := by
  have hv := okV_bd h
  clear h
  have hc0 : (w.alloc (.cells (ac x) 30)).cell? ⟨w.heap.size, 0, none⟩ = some (.int .i64 x.val) := att_val (heap_alloc_last w _)
  have hmk : ∀ w : World, (Instr.makeSlice 31 (.int .i64 0) (.int .i64 123)).run Try.prog w = .ok (.slice (some ⟨w.heap.size, 0, none⟩) 0 123) (w.alloc (.cells (Array.replicate 123 (.int .u8 0)) 5)) := fun _ => by kernel_rfl
  obtain ⟨Z, hZ⟩ : ∃ Z : Array Value, Z = Array.replicate 123 (.int .u8 0) := ⟨_, rfl⟩
  rw [← hZ] at hmk
  have HZ : Hid (Z.size = 123) := by show _ = _; rw [hZ]; simp
  clear hZ
  have hc1 : ((w.alloc (.cells (ac x) 30)).alloc (.cells Z 5)).cell? ⟨w.heap.size, 0, none⟩ = some (.int .i64 x.val) := att_val (heap_alloc_keep (heap_alloc_last w _))
  have d1 : decide (x.val < 0) = false := by simp; omega
  have d2 : decide (65535 < x.val) = false := by simp; omega
  have hv1 := hv.1
  have hv2 := hv.2
  have HO1 : Hid (Own (((w.alloc (.cells (ac x) 30)).alloc (.cells Z 5)).alloc (.cells #[.int .u8 2, .int .u8 (x.val / 256), .int .u8 (x.val % 256)] 5)) (w.heap.size + 1) (.slice (some ⟨w.heap.size + 1, 0, none⟩) 0 123) []) := own_alloc (own_made _ 123 (by unfold maxLen; omega) Z HZ.out _ (by simp)) _
  have HS1 : Hid (SlB (((w.alloc (.cells (ac x) 30)).alloc (.cells Z 5)).alloc (.cells #[.int .u8 2, .int .u8 (x.val / 256), .int .u8 (x.val % 256)] 5)) (.slice (some ⟨w.heap.size + 1 + 1, 0, none⟩) 3 3) [UInt8.ofNat 2, UInt8.ofNat (x.val.toNat / 256), UInt8.ofNat (x.val.toNat % 256)]) := by
    refine slB_lit _ [_, _, _] _ _ _ (by simp) ?_
    have e1 : x.val / 256 = ((UInt8.ofNat (x.val.toNat / 256)).toNat : Int) := by rw [UInt8.toNat_ofNat', Nat.mod_eq_of_lt (by omega)]; omega
    have e2 : x.val % 256 = ((UInt8.ofNat (x.val.toNat % 256)).toNat : Int) := by rw [UInt8.toNat_ofNat', Nat.mod_eq_of_lt (by omega)]; omega
    rw [e1, e2]
    rfl
  go_enter Try.func10, Try.ntmps10
  go_wp2_with (at_builtin
               refine wpList_append_bytes _ rfl (.tmp 14) (.tmp 22) rfl (w.heap.size + 1) _ [] rfl HO1.out _ _ rfl HS1.out (by simp) (by simp) ?_; intro v2 w2 ho2 hg2
               have HO2 := Lib.hid ho2; clear ho2
               have HG2 := Lib.hid hg2; clear hg2
               have HB2 : Hid (w2.heap[w.heap.size]? = some (.cells (ac x) 30 (0, 0))) := HG2.out.heap (heap_alloc_keep (heap_alloc_keep (heap_alloc_last w _))) (by show some (w.heap.size + 1) ≠ some w.heap.size; intro e; injection e; omega)
               have HS2 : Hid (w.heap.size + 1 ≤ w2.heap.size) := by have := HG2.out.1.size; simp at this; show _ ≤ _; omega
               have hc2 := att_slot HB2.out)
  refine (putNumbers_any (w.heap.size + 1) v2 _ w2.heap.size 1 [x.slot] _ (own_alloc HO2.out _) (by have := HS2.out; simp; omega) (by simp) (by simp) (own_ne HO2.out (Nat.le_refl _)) (nums_lit _ _ _ _ _ rfl rfl)).mono ?_
  rintro e w3 ⟨v3, rfl, ho3, hg3⟩
  have HO3 := Lib.hid ho3; clear ho3
  have HG3 := Lib.hid hg3.alloc; clear hg3
  have hne2 : v2.ownBlock ≠ some w.heap.size := fun e => by have := (World.ownsRow.lt HO2.out _ e).1; omega
  have HB3 : Hid (w3.heap[w.heap.size]? = some (.cells (ac x) 30 (0, 0))) := HG3.out.heap HB2.out hne2
  have HS3 : Hid (w.heap.size + 1 ≤ w3.heap.size) := Nat.le_trans HS2.out HG3.out.1.size
  clear hc2 hne2 hc0 hc1 hmk
  go_wp2_with (at_builtin
               refine wpList_append_bytes _ rfl (.tmp 29) (.tmp 31) rfl (w.heap.size + 1) _ _ rfl HO3.out _ x.head.toList rfl (att_head HB3.out) (by rw [List.length_append, nums_length, rt_length]; simp) HS3.out ?_; intro v4 w4 ho4 hg4
               have HO4 := Lib.hid ho4; clear ho4
               have HG4 := Lib.hid hg4; clear hg4
               have HB4 : Hid (w4.heap[w.heap.size]? = some (.cells (ac x) 30 (0, 0))) := HG4.out.heap HB3.out (fun e => by have := (World.ownsRow.lt HO3.out _ e).1; omega)
               have HS4 : Hid (w.heap.size + 1 ≤ w4.heap.size) := Nat.le_trans HS3.out HG4.out.1.size
               have hs4 := att_source HB4.out)
  refine (putCheck_any (w.heap.size + 1) v4 _ x.source _ HO4.out HS4.out (by rw [List.length_append, List.length_append, nums_length, rt_length]; simp)).mono ?_
  rintro e w5 ⟨v5, rfl, ho5, hg5⟩
  have HO5 := Lib.hid ho5; clear ho5
  have HG5 := Lib.hid hg5; clear hg5
  have HB5 : Hid (w5.heap[w.heap.size]? = some (.cells (ac x) 30 (0, 0))) := HG5.out.heap HB4.out (fun e => by have := (World.ownsRow.lt HO4.out _ e).1; omega)
  have HS5 : Hid (w.heap.size + 1 ≤ w5.heap.size) := Nat.le_trans HS4.out HG5.out.1.size
  have ht5 := att_target HB5.out
  clear hs4
  go_wp2_with fail
  refine (putCheck_any (w.heap.size + 1) v5 _ x.target _ HO5.out HS5.out (by rw [List.length_append, List.length_append, List.length_append, nums_length, rt_length, putC_length]; simp)).mono ?_
  rintro e w6 ⟨v6, rfl, ho6, hg6⟩
  have HO6 := Lib.hid ho6; clear ho6
  have HG6 := Lib.hid hg6; clear hg6
  clear ht5
  go_wp2_with fail
  go_ret2
  refine ⟨_, rfl, ?_, ?_⟩
  · have h := own_base HO6.out (Nat.le_succ _)
    rw [nums_one] at h
    have e : [] ++ [UInt8.ofNat 2, UInt8.ofNat (x.val.toNat / 256), UInt8.ofNat (x.val.toNat % 256)] ++ num8 x.slot ++ x.head.toList ++ putC x.source ++ putC x.target = putA x := by simp [putA]
    rwa [e] at h
  · have b1 := ((((Below.refl w.heap.size w).alloc (Nat.le_refl _) (.cells (ac x) 30)).alloc (by simp) (.cells Z 5)).alloc (by simp; omega) (.cells #[.int .u8 2, .int .u8 (x.val / 256), .int .u8 (x.val % 256)] 5))
    have b2 := b1.trans ((HG2.out.own HO1.out (by simp)).mono (Nat.le_succ _))
    have b3 := b2.trans ((HG3.out.own HO2.out HS2.out).mono (Nat.le_succ _))
    have b4 := b3.trans ((HG4.out.own HO3.out HS3.out).mono (Nat.le_succ _))
    have b5 := b4.trans ((HG5.out.own HO4.out HS4.out).mono (Nat.le_succ _))
    exact b5.trans ((HG6.out.own HO5.out HS5.out).mono (Nat.le_succ _))
theorem putAtt_any (x : At) (w : World) :
    Calls Try.prog 10 #[.agg (ac x)] w fun e w' => ∃ v, e = .returned (.tuple #[v, .bool (okV x.val)]) ∧ SlB w' v (putAs x) ∧ Below w.heap.size w w' := by
  cases h : okV x.val with
  | true =>
    refine (putAtt_yes x w h).mono fun _ _ ⟨v, h1, h2, h3⟩ => ⟨v, h1, ?_, h3⟩
    unfold putAs
    rw [if_pos h]
    exact own_slB h2
  | false =>
    refine (putAtt_no x w h).mono fun _ _ ⟨h1, h3⟩ => ⟨_, h1, ?_, h3⟩
    unfold putAs
    rw [if_neg (by rw [h]; exact Bool.false_ne_true)]
    exact slB_nil _ _ _
end Go.Proofs.Ytjdpndclgmdahaa
