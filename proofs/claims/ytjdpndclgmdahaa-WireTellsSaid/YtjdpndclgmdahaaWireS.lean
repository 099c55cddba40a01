/-
  The document's own PutAtt of layer 3, walked.
-/
import Derived.Test.YtjdpndclgmdahaaWireR
namespace Go.Proofs.Ytjdpndclgmdahaa
open Go.RowKit

set_option maxRecDepth 100000 in
set_option maxHeartbeats 1000000 in
theorem refPutAtt_no (x : At) (w : World) (h : okV x.val = false) :
    Calls Try.prog 11 #[.agg (ac x)] w fun e w' => e = .returned (.tuple #[.slice none 0 0, .bool false]) ∧ Below w.heap.size w w' := by
  have hc0 : (w.alloc (.cells (ac x) 30)).cell? ⟨w.heap.size, 0, none⟩ = some (.int .i64 x.val) := att_val (heap_alloc_last w _)
  unfold okV at h
  rw [Bool.and_eq_false_iff, decide_eq_false_iff_not, decide_eq_false_iff_not] at h
  by_cases h1 : x.val < 0
  · have d1 : decide (x.val < 0) = true := by simpa using h1
    go_enter Try.func11, Try.ntmps11
    go_wp2_with fail
    go_ret2
    exact ⟨rfl, (Below.refl _ _).alloc (Nat.le_refl _) _⟩
  · have d1 : decide (x.val < 0) = false := by simpa using h1
    have d2 : decide (65535 < x.val) = true := by simp; omega
    go_enter Try.func11, Try.ntmps11
    go_wp2_with fail
    go_ret2
    exact ⟨rfl, (Below.refl _ _).alloc (Nat.le_refl _) _⟩

set_option maxRecDepth 100000 in
set_option maxHeartbeats 2000000 in
theorem refPutAtt_yes (x : At) (w : World) (h : okV x.val = true) :
    Calls Try.prog 11 #[.agg (ac x)] w fun e w' => ∃ v, e = .returned (.tuple #[v, .bool true]) ∧ Own w' w.heap.size v (putA x) ∧ Below w.heap.size w w' := by
  have hv := okV_bd h
  clear h
  have hv1 := hv.1
  have hv2 := hv.2
  have d1 : decide (x.val < 0) = false := by simp; omega
  have d2 : decide (65535 < x.val) = false := by simp; omega
  obtain ⟨w0, hw0⟩ : ∃ w0, w0 = w.alloc (.cells (ac x) 30) := ⟨_, rfl⟩
  have hz0 : w0.heap.size = w.heap.size + 1 := by rw [hw0]; simp
  have gb0 : w0.heap[w.heap.size]? = some (.cells (ac x) 30 (0, 0)) := by rw [hw0]; exact heap_alloc_last w _
  have hc0 : (w.alloc (.cells (ac x) 30)).cell? ⟨w.heap.size, 0, none⟩ = some (.int .i64 x.val) := att_val (heap_alloc_last w _)
  have GB0 := Lib.hid gb0
  have HB0 : Hid (Below w.heap.size w w0) := by rw [hw0]; exact (Below.refl _ _).alloc (Nat.le_refl _) _
  have HZ0 := Lib.hid hz0
  have Cv := fun p : WdB (w.heap.size + 1) w0.drew => cell_wdB (show w0.drew.cell? _ = _ from att_val gb0) (by omega) p
  have Cs := fun p : WdB (w.heap.size + 1) w0.drew => cell_wdB (show w0.drew.cell? _ = _ from att_slot gb0) (by omega) p
  have Lh := fun p : WdB (w.heap.size + 1) w0.drew => ldA_wdB (show ldA w0.drew _ 32 = _ by rw [ldA_drew]; exact att_ldhead gb0) (by omega) p
  have HW0 := Lib.hid hw0
  have HLit : Hid (#[Value.int .u8 2, .int .u8 (x.val / 256), .int .u8 (x.val % 256)] = (b8 [UInt8.ofNat 2, UInt8.ofNat (x.val.toNat / 256), UInt8.ofNat (x.val.toNat % 256)]).toArray) := by
    show _ = _
    have e1 : x.val / 256 = ((UInt8.ofNat (x.val.toNat / 256)).toNat : Int) := by rw [UInt8.toNat_ofNat', Nat.mod_eq_of_lt (by omega)]; omega
    have e2 : x.val % 256 = ((UInt8.ofNat (x.val.toNat % 256)).toNat : Int) := by rw [UInt8.toNat_ofNat', Nat.mod_eq_of_lt (by omega)]; omega
    rw [e1, e2]
    rfl
  clear gb0 hw0 hv
  go_enter Try.func11, Try.ntmps11
  go_wp2_with fail
  rw [← HW0.out]
  clear hc0
  refine wp_region_lexB (w.heap.size + 1) [8, 11, 14] (by kernel_rfl) (by kernel_rfl) (by kernel_rfl) ?_
  repeat (refine wpXL_quietB rfl rfl ?_; (first | go_big_quiet_step (fail) | quiet_step (fail)); refine wpQuiet_nil ?_)
  refine wpXL_eff rfl rfl (.slice (some ⟨w0.drew.heap.size, 0, none⟩) 3 3) (w0.drew.alloc (.cells #[.int .u8 2, .int .u8 (x.val / 256), .int .u8 (x.val % 256)] 5)) (by go_simp) ((Below.refl _ _).alloc (by show w.heap.size + 1 ≤ w0.heap.size; rw [HZ0.out]; exact Nat.le_refl _) _) ?_
  simp only [Act.put, List.setIfInBounds_toArray, List.set_cons_zero, List.set_cons_succ]
  have HO1 : Hid (Own (w0.drew.alloc (.cells #[.int .u8 2, .int .u8 (x.val / 256), .int .u8 (x.val % 256)] 5)) (w.heap.size + 1) (.slice (some ⟨w0.drew.heap.size, 0, none⟩) 3 3) [UInt8.ofNat 2, UInt8.ofNat (x.val.toNat / 256), UInt8.ofNat (x.val.toNat % 256)]) := own_base (own_lit w0.drew [UInt8.ofNat 2, UInt8.ofNat (x.val.toNat / 256), UInt8.ofNat (x.val.toNat % 256)] (by simp [maxLen]) _ HLit.out _ rfl) (by show w.heap.size + 1 ≤ w0.heap.size; rw [HZ0.out]; exact Nat.le_refl _)
  repeat (refine wpXL_quietB rfl rfl ?_; (first | go_big_quiet_step (fail) | quiet_step (fail)); refine wpQuiet_nil ?_)
  refine wpXL_call rfl rfl rfl enters_refNumber #[.slice (some ⟨w0.drew.heap.size, 0, none⟩) 3 3, num x.slot] rfl ?_
  refine (refNumber_any (w.heap.size + 1) _ _ x.slot _ HO1.out (by show w.heap.size + 1 ≤ (w0.drew.alloc _).heap.size; have := HZ0.out; simp; omega) (by simp)).mono ?_
  rintro e w2 ⟨v2, rfl, ho2, hg2⟩
  refine ⟨_, rfl, hg2.own HO1.out (by show w.heap.size + 1 ≤ (w0.drew.alloc _).heap.size; have := HZ0.out; simp; omega), ?_⟩
  simp only [Act.put, List.setIfInBounds_toArray, List.set_cons_zero, List.set_cons_succ]
  have HO2 := Lib.hid ho2
  have HS2 : Hid (w.heap.size + 1 ≤ w2.heap.size) := Nat.le_trans (by show w.heap.size + 1 ≤ (w0.drew.alloc _).heap.size; have := HZ0.out; simp; omega) hg2.1.size
  have HD2 := Lib.hid (hg2.own HO1.out (by show w.heap.size + 1 ≤ (w0.drew.alloc _).heap.size; have := HZ0.out; simp; omega))
  clear ho2 hg2
  repeat (refine wpXL_quietB rfl rfl ?_; (first | go_big_quiet_step (fail) | quiet_step (fail)); refine wpQuiet_nil ?_)
  refine wpXL_call rfl rfl rfl enters_refRoot #[v2, .agg (rc x.head)] rfl ?_
  refine (refRoot_any (w.heap.size + 1) _ _ x.head _ HO2.out HS2.out (by rw [List.length_append, num8_length]; simp)).mono ?_
  rintro e w3 ⟨v3, rfl, ho3, hg3⟩
  refine ⟨_, rfl, hg3.own HO2.out HS2.out, ?_⟩
  simp only [Act.put, List.setIfInBounds_toArray, List.set_cons_zero, List.set_cons_succ]
  have HO3 := Lib.hid ho3
  have HS3 : Hid (w.heap.size + 1 ≤ w3.heap.size) := Nat.le_trans HS2.out hg3.1.size
  have HD3 := Lib.hid (hg3.own HO2.out HS2.out)
  clear ho3 hg3
  repeat (refine wpXL_quietB rfl rfl ?_; (first | go_big_quiet_step (fail) | quiet_step (fail)); refine wpQuiet_nil ?_)
  refine wpXL_nil ?_
  have D3 : Below (w.heap.size + 1) w0 w3 := ((belowD (Below.refl _ w0) 1).trans (((Below.refl (w.heap.size + 1) w0.drew).alloc (by show w.heap.size + 1 ≤ w0.heap.size; rw [HZ0.out]; exact Nat.le_refl _) (.cells #[.int .u8 2, .int .u8 (x.val / 256), .int .u8 (x.val % 256)] 5)).trans (HD2.out.trans HD3.out)))
  have gb3 : w3.heap[w.heap.size]? = some (.cells (ac x) 30 (0, 0)) := by rw [D3.block _ (by omega)]; exact GB0.out
  have GB3 := Lib.hid gb3
  have HD03 := Lib.hid D3
  have Ce := fun p : WdB (w.heap.size + 1) w3.drew => cell_wdB (show w3.drew.cell? _ = _ from att_sepoch gb3) (by omega) p
  have Lr := fun p : WdB (w.heap.size + 1) w3.drew => ldA_wdB (show ldA w3.drew _ 32 = _ by rw [ldA_drew]; exact att_sroot gb3) (by omega) p
  have HO3' : Hid (Own w3.drew (w.heap.size + 1) v3 ([UInt8.ofNat 2, UInt8.ofNat (x.val.toNat / 256), UInt8.ofNat (x.val.toNat % 256)] ++ num8 x.slot ++ x.head.toList)) := HO3.out
  clear D3 gb3 Cv Cs Lh
  go_wp2_with fail
  refine wp_region_lexB (w.heap.size + 1) [4, 8] (by kernel_rfl) (by kernel_rfl) (by kernel_rfl) ?_
  repeat (refine wpXL_quietB rfl rfl ?_; (first | go_big_quiet_step (fail) | quiet_step (fail)); refine wpQuiet_nil ?_)
  refine wpXL_call rfl rfl rfl enters_refNumber #[v3, num x.source.epoch] rfl ?_
  refine (refNumber_any (w.heap.size + 1) _ _ x.source.epoch _ HO3'.out HS3.out (by rw [List.length_append, List.length_append, rt_length, num8_length]; simp)).mono ?_
  rintro e w4 ⟨v4, rfl, ho4, hg4⟩
  refine ⟨_, rfl, hg4.own HO3'.out HS3.out, ?_⟩
  simp only [Act.put, List.setIfInBounds_toArray, List.set_cons_zero, List.set_cons_succ]
  have HO4 := Lib.hid ho4
  have HS4 : Hid (w.heap.size + 1 ≤ w4.heap.size) := Nat.le_trans HS3.out hg4.1.size
  have HD4 := Lib.hid (hg4.own HO3'.out HS3.out)
  clear ho4 hg4
  repeat (refine wpXL_quietB rfl rfl ?_; (first | go_big_quiet_step (fail) | quiet_step (fail)); refine wpQuiet_nil ?_)
  refine wpXL_call rfl rfl rfl enters_refRoot #[v4, .agg (rc x.source.root)] rfl ?_
  refine (refRoot_any (w.heap.size + 1) _ _ x.source.root _ HO4.out HS4.out (by rw [List.length_append, List.length_append, List.length_append, rt_length, num8_length, num8_length]; simp)).mono ?_
  rintro e w5 ⟨v5, rfl, ho5, hg5⟩
  refine ⟨_, rfl, hg5.own HO4.out HS4.out, ?_⟩
  simp only [Act.put, List.setIfInBounds_toArray, List.set_cons_zero, List.set_cons_succ]
  have HO5 := Lib.hid ho5
  have HS5 : Hid (w.heap.size + 1 ≤ w5.heap.size) := Nat.le_trans HS4.out hg5.1.size
  have HD5 := Lib.hid (hg5.own HO4.out HS4.out)
  clear ho5 hg5
  repeat (refine wpXL_quietB rfl rfl ?_; (first | go_big_quiet_step (fail) | quiet_step (fail)); refine wpQuiet_nil ?_)
  refine wpXL_nil ?_
  have D5 : Below (w.heap.size + 1) w3 w5 := (belowD (Below.refl _ w3) 1).trans (HD4.out.trans HD5.out)
  have gb5 : w5.heap[w.heap.size]? = some (.cells (ac x) 30 (0, 0)) := by rw [D5.block _ (by omega)]; exact GB3.out
  have HD35 := Lib.hid D5
  have Ct := fun p : WdB (w.heap.size + 1) w5.drew => cell_wdB (show w5.drew.cell? _ = _ from att_tepoch gb5) (by omega) p
  have Lt := fun p : WdB (w.heap.size + 1) w5.drew => ldA_wdB (show ldA w5.drew _ 32 = _ by rw [ldA_drew]; exact att_troot gb5) (by omega) p
  have HO5' : Hid (Own w5.drew (w.heap.size + 1) v5 ([UInt8.ofNat 2, UInt8.ofNat (x.val.toNat / 256), UInt8.ofNat (x.val.toNat % 256)] ++ num8 x.slot ++ x.head.toList ++ num8 x.source.epoch ++ x.source.root.toList)) := HO5.out
  clear D5 gb5 Ce Lr
  go_wp2_with fail
  refine wp_region_lexB (w.heap.size + 1) [4, 8] (by kernel_rfl) (by kernel_rfl) (by kernel_rfl) ?_
  repeat (refine wpXL_quietB rfl rfl ?_; (first | go_big_quiet_step (fail) | quiet_step (fail)); refine wpQuiet_nil ?_)
  refine wpXL_call rfl rfl rfl enters_refNumber #[v5, num x.target.epoch] rfl ?_
  refine (refNumber_any (w.heap.size + 1) _ _ x.target.epoch _ HO5'.out HS5.out (by rw [List.length_append, List.length_append, List.length_append, List.length_append, rt_length, rt_length, num8_length, num8_length]; simp)).mono ?_
  rintro e w6 ⟨v6, rfl, ho6, hg6⟩
  refine ⟨_, rfl, hg6.own HO5'.out HS5.out, ?_⟩
  simp only [Act.put, List.setIfInBounds_toArray, List.set_cons_zero, List.set_cons_succ]
  have HO6 := Lib.hid ho6
  have HS6 : Hid (w.heap.size + 1 ≤ w6.heap.size) := Nat.le_trans HS5.out hg6.1.size
  have HD6 := Lib.hid (hg6.own HO5'.out HS5.out)
  clear ho6 hg6
  repeat (refine wpXL_quietB rfl rfl ?_; (first | go_big_quiet_step (fail) | quiet_step (fail)); refine wpQuiet_nil ?_)
  refine wpXL_call rfl rfl rfl enters_refRoot #[v6, .agg (rc x.target.root)] rfl ?_
  refine (refRoot_any (w.heap.size + 1) _ _ x.target.root _ HO6.out HS6.out (by rw [List.length_append, List.length_append, List.length_append, List.length_append, List.length_append, rt_length, rt_length, num8_length, num8_length, num8_length]; simp)).mono ?_
  rintro e w7 ⟨v7, rfl, ho7, hg7⟩
  refine ⟨_, rfl, hg7.own HO6.out HS6.out, ?_⟩
  simp only [Act.put, List.setIfInBounds_toArray, List.set_cons_zero, List.set_cons_succ]
  have HO7 := Lib.hid ho7
  have HS7 : Hid (w.heap.size + 1 ≤ w7.heap.size) := Nat.le_trans HS6.out hg7.1.size
  have HD7 := Lib.hid (hg7.own HO6.out HS6.out)
  clear ho7 hg7
  repeat (refine wpXL_quietB rfl rfl ?_; (first | go_big_quiet_step (fail) | quiet_step (fail)); refine wpQuiet_nil ?_)
  refine wpXL_nil ?_
  go_wp2_with fail
  go_ret2
  refine ⟨_, rfl, ?_, ?_⟩
  · have h := own_base HO7.out (Nat.le_succ _)
    have e : [UInt8.ofNat 2, UInt8.ofNat (x.val.toNat / 256), UInt8.ofNat (x.val.toNat % 256)] ++ num8 x.slot ++ x.head.toList ++ num8 x.source.epoch ++ x.source.root.toList ++ num8 x.target.epoch ++ x.target.root.toList = putA x := by simp [putA, putC]
    rwa [e] at h
  · exact HB0.out.trans ((HD03.out.trans (HD35.out.trans ((belowD (Below.refl _ w5) 1).trans (HD6.out.trans HD7.out)))).mono (Nat.le_succ _))
theorem refPutAtt_any (x : At) (w : World) :
    Calls Try.prog 11 #[.agg (ac x)] w fun e w' => ∃ v, e = .returned (.tuple #[v, .bool (okV x.val)]) ∧ SlB w' v (putAs x) ∧ Below w.heap.size w w' := by
  cases h : okV x.val with
  | true =>
    refine (refPutAtt_yes x w h).mono fun _ _ ⟨v, h1, h2, h3⟩ => ⟨v, h1, ?_, h3⟩
    unfold putAs
    rw [if_pos h]
    exact own_slB h2
  | false =>
    refine (refPutAtt_no x w h).mono fun _ _ ⟨h1, h3⟩ => ⟨_, h1, ?_, h3⟩
    unfold putAs
    rw [if_neg (by rw [h]; exact Bool.false_ne_true)]
    exact slB_nil _ _ _
end Go.Proofs.Ytjdpndclgmdahaa
