/-
  Package tree: Find, walked.
-/
import Derived.Test.YtnehebipikhejaaP06May
namespace Go.Proofs.Ytnehebipikhejaa
open Go.RowKit Go.Maps

theorem zero_intE (w : World) : (zeroValue 3).run Try.prog w = .ok (.int .i64 0) w := by kernel_rfl
/-- 'v, ok := m[k]' where what is there is known. -/
theorem look_is {W : World} {b n : Nat} {D : DataW Unit} (h : W.ownsMap Try.prog 26 (plainElem Try.prog 3) b n D) {r : Rt} {c : Int} (hc : D.atKey (rk r) (iL 0) = .lit (.int .i64 c)) :
    (Instr.lookup 62 (.map (some b)) (.agg (rc r)) true).run Try.prog W = .ok (.tuple #[.int .i64 c, .bool (Maps.has D (rk r))]) W := by
  obtain ⟨v, ps, hrun, hv⟩ := h.look_ok keyed_root Try.underlying62 (zero_intE W) (plainElem_int Try.underlying3 (by decide)) (key_root r)
  obtain ⟨a, rfl, hz, _⟩ := plainElem_int_inv Try.underlying3 hv
  have e : D.atKey (rk r) (.lit (.int .i64 0)) = .lit (.int .i64 a) := congrArg Prod.fst hz
  have hc' : D.atKey (rk r) (.lit (.int .i64 0)) = .lit (.int .i64 c) := hc
  rw [e] at hc'
  injection hc' with h1
  injection h1 with _ h2
  rw [← h2]
  exact hrun
/-- What a place's root leads to. -/
def putR (l : List Nd) (r : Rt) : Int := if 0 ≤ findT l r then findT l r else 0
theorem plD_look {l : List Nd} (h : MayT l) (r : Rt) : (plD l l.length).atKey (rk r) (iL 0) = .lit (.int .i64 (putR l r)) ∧ Maps.has (plD l l.length) (rk r) = decide (0 ≤ findT l r) := by
  obtain ⟨h1, h2⟩ := plD_find h r
  refine ⟨?_, h1⟩
  unfold putR
  by_cases hf : 0 ≤ findT l r
  · rw [if_pos hf]; exact h2 hf
  · rw [if_neg hf]
    exact atKey_of_not_has (by rw [h1]; exact decide_eq_false hf) _

set_option maxRecDepth 100000 in
set_option maxHeartbeats 4000000 in
theorem treeFind (s : SlV) (l : List Nd) (r : Rt) (w : World) (h : SlE Ene w (sv s) l) :
    Calls Try.prog 29 #[.agg (tr ⟨s⟩), .agg (rc r)] w fun e w' => e = .returned (.int .i64 (findT l r)) ∧ Below w.heap.size w w' := by
  have HM := Lib.hid (fun W (g : Below w.heap.size w W) => treeMay s l W (slE_keep g h))
  have HS := Lib.hid h
  obtain ⟨a, ha⟩ : ∃ a, a = decide (MayT l) := ⟨_, rfl⟩
  rw [← ha] at HM
  have HA := Lib.hid ha
  obtain ⟨W0, hW0⟩ : ∃ W0, W0 = (w.alloc (.cells (tr ⟨s⟩) 24)).alloc (.cells (rc r) 26) := ⟨_, rfl⟩
  obtain ⟨hB, h0, h1, hz⟩ := heap2 w _ _ _ _ W0 hW0
  have HB := Lib.hid hB
  have H0 := Lib.hid h0
  have H1 := Lib.hid h1
  have HW := Lib.hid hW0
  obtain ⟨x, hx⟩ : ∃ x, x = findT l r := ⟨_, rfl⟩
  rw [← hx]
  have HX := Lib.hid hx
  clear h hW0 hB h0 h1 hz ha hx
  go_enter Try.func29, Try.ntmps29
  go_wp2_with fail
  rw [← HW.out]
  refine (HM.out W0 HB.out).mono ?_
  rintro e w1 ⟨rfl, g1⟩
  have G1 := Lib.hid (belowT HB.out g1)
  have N0 := Lib.hid (blk_keep g1 H0.out)
  have N1 := Lib.hid (blk_keep g1 H1.out)
  clear g1
  cases a
  · have hX : Hid (x = -1) := by show x = -1; rw [HX.out]; exact find_not (fun hm => by have := HA.out; rw [decide_eq_true hm] at this; cases this) r
    go_wp2_with fail
    go_ret
    exact ⟨by rw [hX.out]; first | done | rfl, G1.out⟩
  · have HMl := Lib.hid (of_decide_eq_true HA.out.symm)
    have hx := HX.out
    obtain ⟨c, hc⟩ : ∃ c, c = putR l r := ⟨_, rfl⟩
    obtain ⟨q, hq⟩ : ∃ q, q = decide (0 ≤ x) := ⟨_, rfl⟩
    have hlk := plD_look HMl.out r
    rw [← hc, ← hx, ← hq] at hlk
    have HLK := Lib.hid hlk
    have HXF : Hid (q = false → -1 = x) := fun e => by
      have := find_ge (l := l) r
      rw [e] at hq
      have := of_decide_eq_false hq.symm
      omega
    have HXT : Hid (q = true → c = x) := fun e => by
      rw [e] at hq
      have := of_decide_eq_true hq.symm
      rw [hc]; unfold putR
      rw [if_pos (by omega)]; exact hx.symm
    clear hx hc hq hlk
    go_wp2_with fail
    have La := fun q : Wd w1.drew => wd_tr N0.out q
    have Lb := fun q : Wd w1.drew => wd_ld (ldA_block N1.out (rc_size r)) (by decide) q
    refine wp_region_lex [1] (by kernel_rfl) (by kernel_rfl) (by kernel_rfl) ?_
    repeat (refine wpXL_quiet rfl rfl _ cls_begin ?_; (first | go_big_quiet_step (fail) | quiet_step (fail)); refine wpQuiet_nil ?_)
    refine wpXL_call rfl rfl rfl enters_places #[.agg (tr ⟨s⟩)] rfl ?_
    refine (treePlaces s l _ (slE_keep (belowT G1.out (belowD (Below.refl _ _) 1)) HS.out) (by have := HMl.out.le; omega)).mono ?_
    rintro e u ⟨b, rfl, ho, g⟩
    refine ⟨_, rfl, g, ?_⟩
    simp only [Act.put, List.setIfInBounds_toArray, List.set_cons_zero, List.set_cons_succ]
    have Lc := fun q : Wd u => look_is (ownsMap_keep q.h ho) HLK.out.1
    rw [HLK.out.2] at Lc
    have G := Lib.hid (belowT (belowT G1.out (belowD (Below.refl _ _) 1)) g)
    clear g ho
    refine wpXL_quiet rfl rfl _ cls_begin ?_
    (first | go_big_quiet_step (fail) | quiet_step (fail))
    refine wpQuiet_nil ?_
    refine wpXL_quiet rfl rfl u (cls_at 1 u (by simp) (by kernel_rfl)) ?_
    (first | go_big_quiet_step (fail) | quiet_step (fail))
    refine wpQuiet_nil ?_
    repeat (refine wpXL_quiet rfl rfl _ cls_begin ?_; (first | go_big_quiet_step (fail) | quiet_step (fail)); refine wpQuiet_nil ?_)
    refine wpXL_nil ?_
    cases q
    · have hX : Hid (-1 = x) := HXF.out rfl
      go_wp2_with fail
      go_ret
      exact ⟨by rw [← hX.out]; first | done | rfl, G.out⟩
    · have hX : Hid (c = x) := HXT.out rfl
      go_wp2_with fail
      go_ret
      exact ⟨by rw [← hX.out]; first | done | rfl, G.out⟩
theorem enters_find06 : ∀ args w, (callFunc 29 args).run Try.prog w = .ok (.enter 29 args) w := entersE Try.func29 (by kernel_rfl) (by kernel_rfl)
end Go.Proofs.Ytnehebipikhejaa
