/-
  The document's own PutBlock and PutAtt of layer 3, walked.
-/
import Derived.Test.YtjdpndclgmdahaaWireQ
namespace Go.Proofs.Ytjdpndclgmdahaa
open Go.RowKit

theorem enters_refRoot : ∀ args w, (callFunc 20 args).run Try.prog w = .ok (.enter 20 args) w := enters_f Try.func20 (by kernel_rfl) (by kernel_rfl)
theorem enters_refNumber : ∀ args w, (callFunc 21 args).run Try.prog w = .ok (.enter 21 args) w := enters_f Try.func21 (by kernel_rfl) (by kernel_rfl)
theorem ldA_wdB {B : Nat} {W : World} {b o n : Nat} {c : Array Value} (h : ldA W (.pointer (some ⟨b, o, none⟩)) n = some c) (hb : b < B) (p : WdB B W) : ldA p.w (.pointer (some ⟨b, o, none⟩)) n = some c := (ldA_below p.h b o n hb).trans h
theorem cell_wdB {B : Nat} {W : World} {b o : Nat} {c : Value} (h : W.cell? ⟨b, o, none⟩ = some c) (hb : b < B) (p : WdB B W) : p.w.cell? ⟨b, o, none⟩ = some c := (p.h.cell (p := ⟨b, o, none⟩) hb).trans h

set_option maxRecDepth 100000 in
set_option maxHeartbeats 1000000 in
theorem refPutBlock_own (x : Blk) (w : World) :
    Calls Try.prog 17 #[.agg (bc x)] w fun e w' => ∃ v, e = .returned v ∧ Own w' w.heap.size v (putB x) ∧ Below w.heap.size w w' := by
  obtain ⟨w0, hw0⟩ : ∃ w0, w0 = w.alloc (.cells (bc x) 26) := ⟨_, rfl⟩
  have hz0 : w0.heap.size = w.heap.size + 1 := by rw [hw0]; simp
  have gb0 : w0.heap[w.heap.size]? = some (.cells (bc x) 26 (0, 0)) := by rw [hw0]; exact heap_alloc_last w _
  have GB0 := Lib.hid gb0
  have HB0 : Hid (Below w.heap.size w w0) := by rw [hw0]; exact (Below.refl _ _).alloc (Nat.le_refl _) _
  have HZ0 := Lib.hid hz0
  have Lr := fun p : WdB (w.heap.size + 1) w0.drew => ldA_wdB (show ldA w0.drew _ 32 = _ by rw [ldA_drew]; exact blk_ldroot gb0) (by omega) p
  have Lp := fun p : WdB (w.heap.size + 1) w0.drew => ldA_wdB (show ldA w0.drew _ 32 = _ by rw [ldA_drew]; exact blk_ldparent gb0) (by omega) p
  have HW0 := Lib.hid hw0
  clear gb0 hw0
  go_enter Try.func17, Try.ntmps17
  go_wp2_with fail
  rw [← HW0.out]
  refine wp_region_lexB (w.heap.size + 1) [0, 3, 6] (by kernel_rfl) (by kernel_rfl) (by kernel_rfl) ?_
  refine wpXL_eff rfl rfl (.slice (some ⟨w0.drew.heap.size, 0, none⟩) 1 1) (w0.drew.alloc (.cells #[.int .u8 1] 5)) (by go_simp) ((Below.refl _ _).alloc (by show w.heap.size + 1 ≤ w0.heap.size; rw [HZ0.out]; exact Nat.le_refl _) _) ?_
  simp only [Act.put, List.setIfInBounds_toArray, List.set_cons_zero, List.set_cons_succ]
  have HO1 : Hid (Own (w0.drew.alloc (.cells #[.int .u8 1] 5)) (w.heap.size + 1) (.slice (some ⟨w0.drew.heap.size, 0, none⟩) 1 1) [1]) := own_base (own_lit w0.drew [1] (by simp [maxLen]) _ rfl _ rfl) (by show w.heap.size + 1 ≤ w0.heap.size; rw [HZ0.out]; exact Nat.le_refl _)
  repeat (refine wpXL_quietB rfl rfl ?_; (first | go_big_quiet_step (fail) | quiet_step (fail)); refine wpQuiet_nil ?_)
  refine wpXL_call rfl rfl rfl enters_refRoot #[.slice (some ⟨w0.drew.heap.size, 0, none⟩) 1 1, .agg (rc x.root)] rfl ?_
  refine (refRoot_any (w.heap.size + 1) _ _ x.root _ HO1.out (by show w.heap.size + 1 ≤ (w0.drew.alloc _).heap.size; have := HZ0.out; simp; omega) (by simp)).mono ?_
  rintro e w2 ⟨v2, rfl, ho2, hg2⟩
  refine ⟨_, rfl, hg2.own HO1.out (by show w.heap.size + 1 ≤ (w0.drew.alloc _).heap.size; have := HZ0.out; simp; omega), ?_⟩
  simp only [Act.put, List.setIfInBounds_toArray, List.set_cons_zero, List.set_cons_succ]
  have HO2 := Lib.hid ho2
  have HS2 : Hid (w.heap.size + 1 ≤ w2.heap.size) := Nat.le_trans (by show w.heap.size + 1 ≤ (w0.drew.alloc _).heap.size; have := HZ0.out; simp; omega) hg2.1.size
  have HD2 := Lib.hid (hg2.own HO1.out (by show w.heap.size + 1 ≤ (w0.drew.alloc _).heap.size; have := HZ0.out; simp; omega))
  clear ho2 hg2
  repeat (refine wpXL_quietB rfl rfl ?_; (first | go_big_quiet_step (fail) | quiet_step (fail)); refine wpQuiet_nil ?_)
  refine wpXL_call rfl rfl rfl enters_refRoot #[v2, .agg (rc x.parent)] rfl ?_
  refine (refRoot_any (w.heap.size + 1) _ _ x.parent _ HO2.out HS2.out (by rw [List.length_append, rt_length]; simp)).mono ?_
  rintro e w3 ⟨v3, rfl, ho3, hg3⟩
  refine ⟨_, rfl, hg3.own HO2.out HS2.out, ?_⟩
  simp only [Act.put, List.setIfInBounds_toArray, List.set_cons_zero, List.set_cons_succ]
  have HO3 := Lib.hid ho3
  have HS3 : Hid (w.heap.size + 1 ≤ w3.heap.size) := Nat.le_trans HS2.out hg3.1.size
  have HD3 := Lib.hid (hg3.own HO2.out HS2.out)
  clear ho3 hg3
  repeat (refine wpXL_quietB rfl rfl ?_; (first | go_big_quiet_step (fail) | quiet_step (fail)); refine wpQuiet_nil ?_)
  refine wpXL_nil ?_
  have D3 : Below (w.heap.size + 1) w0 w3 := ((belowD (Below.refl _ w0) 1).trans (((Below.refl (w.heap.size + 1) w0.drew).alloc (by show w.heap.size + 1 ≤ w0.heap.size; rw [HZ0.out]; exact Nat.le_refl _) (.cells #[.int .u8 1] 5)).trans (HD2.out.trans HD3.out)))
  have gb3 : w3.heap[w.heap.size]? = some (.cells (bc x) 26 (0, 0)) := by rw [D3.block _ (by omega)]; exact GB0.out
  have HD03 := Lib.hid D3
  have Cs := fun p : WdB (w.heap.size + 1) w3.drew => cell_wdB (show w3.drew.cell? _ = _ from blk_slot gb3) (by omega) p
  have Cj := fun p : WdB (w.heap.size + 1) w3.drew => cell_wdB (show w3.drew.cell? _ = _ from blk_just gb3) (by omega) p
  have HO3' : Hid (Own w3.drew (w.heap.size + 1) v3 ([1] ++ x.root.toList ++ x.parent.toList)) := HO3.out
  clear D3 gb3 Lr Lp
  go_wp2_with fail
  refine wp_region_lexB (w.heap.size + 1) [3, 6] (by kernel_rfl) (by kernel_rfl) (by kernel_rfl) ?_
  repeat (refine wpXL_quietB rfl rfl ?_; (first | go_big_quiet_step (fail) | quiet_step (fail)); refine wpQuiet_nil ?_)
  refine wpXL_call rfl rfl rfl enters_refNumber #[v3, num x.slot] rfl ?_
  refine (refNumber_any (w.heap.size + 1) _ _ x.slot _ HO3'.out HS3.out (by rw [List.length_append, List.length_append, rt_length, rt_length]; simp)).mono ?_
  rintro e w4 ⟨v4, rfl, ho4, hg4⟩
  refine ⟨_, rfl, hg4.own HO3'.out HS3.out, ?_⟩
  simp only [Act.put, List.setIfInBounds_toArray, List.set_cons_zero, List.set_cons_succ]
  have HO4 := Lib.hid ho4
  have HS4 : Hid (w.heap.size + 1 ≤ w4.heap.size) := Nat.le_trans HS3.out hg4.1.size
  have HD4 := Lib.hid (hg4.own HO3'.out HS3.out)
  clear ho4 hg4
  repeat (refine wpXL_quietB rfl rfl ?_; (first | go_big_quiet_step (fail) | quiet_step (fail)); refine wpQuiet_nil ?_)
  refine wpXL_call rfl rfl rfl enters_refNumber #[v4, num x.just] rfl ?_
  refine (refNumber_any (w.heap.size + 1) _ _ x.just _ HO4.out HS4.out (by rw [List.length_append, List.length_append, List.length_append, rt_length, rt_length, num8_length]; simp)).mono ?_
  rintro e w5 ⟨v5, rfl, ho5, hg5⟩
  refine ⟨_, rfl, hg5.own HO4.out HS4.out, ?_⟩
  simp only [Act.put, List.setIfInBounds_toArray, List.set_cons_zero, List.set_cons_succ]
  have HO5 := Lib.hid ho5
  have HS5 : Hid (w.heap.size + 1 ≤ w5.heap.size) := Nat.le_trans HS4.out hg5.1.size
  have HD5 := Lib.hid (hg5.own HO4.out HS4.out)
  clear ho5 hg5
  repeat (refine wpXL_quietB rfl rfl ?_; (first | go_big_quiet_step (fail) | quiet_step (fail)); refine wpQuiet_nil ?_)
  refine wpXL_nil ?_
  go_wp2_with fail
  go_ret
  refine ⟨_, rfl, ?_, ?_⟩
  · have h := own_base HO5.out (Nat.le_succ _)
    have e : [1] ++ x.root.toList ++ x.parent.toList ++ num8 x.slot ++ num8 x.just = putB x := by simp [putB]
    rwa [e] at h
  · exact HB0.out.trans ((HD03.out.trans ((belowD (Below.refl _ w3) 1).trans (HD4.out.trans HD5.out))).mono (Nat.le_succ _))
theorem refPutBlock_any (x : Blk) (w : World) :
    Calls Try.prog 17 #[.agg (bc x)] w fun e w' => ∃ v, e = .returned v ∧ SlB w' v (putB x) ∧ Below w.heap.size w w' :=
  (refPutBlock_own x w).mono fun _ _ ⟨v, h1, h2, h3⟩ => ⟨v, h1, own_slB h2, h3⟩
end Go.Proofs.Ytjdpndclgmdahaa
