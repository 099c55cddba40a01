/-
  The document's own Att of layer 3, walked.
-/
import Derived.Test.YtjdpndclgmdahaaWireT
import Derived.Deep.RegionHeld3
import Derived.Deep.DrawnRows
namespace Go.Proofs.Ytjdpndclgmdahaa
open Go.RowKit

theorem keepC {B : Nat} {a b c : World} (h : Below B a b) (k : Below b.heap.size b c) (hz : a.heap.size = B) : Below B a c := h.trans (k.mono (by have := h.size; omega))
theorem keepAl {B : Nat} {a b : World} {o : Obj} (h : Below B a b) (hz : a.heap.size = B) : Below B a (b.alloc o) := h.alloc (by have := h.size; omega) o

theorem keepSw {B : Nat} {a b : World} {o o' : Obj} (h : Below B a (b.alloc o)) (hB : B ≤ b.heap.size) : Below B a (b.alloc o') :=
  ⟨h.os, h.tape, h.output, by have := h.size; simpa using this, fun k hk => by rw [← h.block k hk, Below.heap_alloc _ _ _ (by omega), Below.heap_alloc _ _ _ (by omega)]⟩

/-- A variable of the call's own, wherever it lies from B on: what it holds, all below B as it was. -/
structure Vr (T : TypeId) (B : Nat) (a W : World) (g : Nat) (c : Array Value) : Prop where
  below : Below B a W
  out : W.heap[g]? = some (.cells c T (0, 0))
  ge : B ≤ g
  size : a.heap.size = B
section
variable {T : TypeId} {B : Nat} {a W : World} {g : Nat} {c : Array Value}
theorem Vr.call (h : Vr T B a W g c) {w' : World} (hb : Below W.heap.size W w') : Vr T B a w' g c :=
  ⟨keepC h.below hb h.size, by rw [hb.block _ (Array.getElem?_eq_some_iff.1 h.out).1]; exact h.out, h.ge, h.size⟩
theorem Vr.store (h : Vr T B a W g c) (o : Nat) (r : Array Value) (hr : o + r.size ≤ c.size) : Vr T B a (stA W (.pointer (some ⟨g, o, none⟩)) (.agg r)) g (putSeg c o r) :=
  ⟨below_stA h.below h.ge, heap_stA_same h.out hr, h.ge, h.size⟩
theorem Vr.to (h : Vr T B a W g c) {c' : Array Value} (e : c = c') : Vr T B a W g c' := e ▸ h
theorem Vr.wr (h : Vr T B a W g c) (o n : Nat) (hr : o + n ≤ c.size) : wrA W (.pointer (some ⟨g, o, none⟩)) n = true := wrA_mid h.out hr
theorem Vr.ld (h : Vr T B a W g c) (n : Nat) (hn : c.size = n) : ldA W (.pointer (some ⟨g, 0, none⟩)) n = some c := ldA_block h.out hn
end

set_option maxRecDepth 100000 in
set_option maxHeartbeats 1000000 in
theorem refAtt_no (v : Value) (l : List UInt8) (w : World) (h : SlB w v l) (hB : isA l = false) : Calls Try.prog 15 #[v] w (AttIs l w) := by
  have hcase : (l.length = 123 ∧ ¬ bt l 0 = 2) ∨ ¬ l.length = 123 := by
    unfold isA at hB
    rw [Bool.and_eq_false_iff, decide_eq_false_iff_not, decide_eq_false_iff_not] at hB
    by_cases h1 : l.length = 123
    · exact .inl ⟨h1, hB.resolve_left (fun h => h h1)⟩
    · exact .inr h1
  have HB := Lib.hid hB
  have HS := Lib.hid h
  clear hB h
  rcases hcase with ⟨h1, h2⟩ | h1
  · obtain ⟨b, off, cap, rfl, hcap, hb, hx⟩ := slB_ne HS.out (by omega)
    have e1 : ((l.length : Int) != 123) = false := by simp; omega
    have i1 : (0 : Int) < (l.length : Int) := by omega
    have hc : (w.alloc (.cells (ac za) 30)).cell? ⟨b, off, none⟩ = some (.int .u8 (bt l 0)) := by rw [World.cell?_alloc_lt _ _ _ hb]; exact hx 0 (by omega)
    have e2 : (bt l 0 != 2) = true := by simpa using h2
    clear hx h1 h2
    go_enter Try.func15, Try.ntmps15
    go_wp2_with fail
    exact bodyPost_ret (results_agg2 Try.isAgg30 Try.sizeOf30 _ 2 3 rfl _ _ _ (ac za) _ rfl rfl (by go_simp)) rfl ⟨by rw [attOf_not HB.out, HB.out]; rfl, (Below.refl _ _).alloc (Nat.le_refl _) _⟩
  · obtain ⟨p, cap, rfl, hcap⟩ := slB_shape HS.out
    have e1 : ((l.length : Int) != 123) = true := by simp; omega
    clear h1
    go_enter Try.func15, Try.ntmps15
    go_wp2_with fail
    exact bodyPost_ret (results_agg2 Try.isAgg30 Try.sizeOf30 _ 2 3 rfl _ _ _ (ac za) _ rfl rfl (by go_simp)) rfl ⟨by rw [attOf_not HB.out, HB.out]; rfl, (Below.refl _ _).alloc (Nat.le_refl _) _⟩

set_option maxRecDepth 100000 in
set_option maxHeartbeats 4000000 in
theorem refAtt_yes (v : Value) (l : List UInt8) (w : World) (h : SlB w v l) (hB : isA l = true) : Calls Try.prog 15 #[v] w (AttIs l w) := by
  have hl := isA_len hB
  have h0 : bt l 0 = 2 := by
    unfold isA at hB
    rw [Bool.and_eq_true, decide_eq_true_iff, decide_eq_true_iff] at hB
    exact hB.2
  obtain ⟨b, off, cap, rfl, hcap, hb, hx⟩ := slB_ne h (by omega)
  have HE : Hid (Ending.returned (.tuple #[.agg (ac (getA l)), .bool true]) = .returned (.tuple #[.agg (ac (attOf l)), .bool (isA l)])) := by
    show _ = _
    unfold attOf
    rw [if_pos hB, hB]
  have e1 : ((l.length : Int) != 123) = false := by simp; omega
  have i0 : (0 : Int) < (l.length : Int) := by omega
  have i1 : (1 : Int) < (l.length : Int) := by omega
  have i2 : (2 : Int) < (l.length : Int) := by omega
  have y1 := bt_bd l 1
  have y2 := bt_bd l 2
  have u1 : IntKind.i64.wrap (bt l 1) = bt l 1 := IntWalk.i64_in _ (by omega)
  have u2 : IntKind.i64.wrap (bt l 2) = bt l 2 := IntWalk.i64_in _ (by omega)
  have u3 : IntKind.i64.wrap (256 * bt l 1) = 256 * bt l 1 := IntWalk.i64_in _ (by omega)
  have u4 : IntKind.i64.wrap (256 * bt l 1 + bt l 2) = 256 * bt l 1 + bt l 2 := IntWalk.i64_in _ (by omega)
  obtain ⟨w1, hw1⟩ : ∃ w1, w1 = w.alloc (.cells (ac za) 30) := ⟨_, rfl⟩
  have hz : w1.heap.size = w.heap.size + 1 := by rw [hw1]; simp
  have hc : (w.alloc (.cells (ac za) 30)).cell? ⟨b, off, none⟩ = some (.int .u8 (bt l 0)) := by rw [World.cell?_alloc_lt _ _ _ hb]; exact hx 0 (by omega)
  rw [h0] at hc
  have HBB : Hid (Below w.heap.size w w1) := by rw [hw1]; exact (Below.refl _ _).alloc (Nat.le_refl _) _
  have hres : w1.heap[w.heap.size]? = some (.cells (ac za) 30 (0, 0)) := by rw [hw1]; exact heap_alloc_last w _
  have HRES := Lib.hid hres
  have hcells : ∀ W : World, Below (w.heap.size + 1) w1 W → ∀ i, i < l.length → W.cell? ⟨b, off + i, none⟩ = some (.int .u8 (bt l i)) := fun W hW i hi => ((HBB.out.trans (hW.mono (Nat.le_succ _))).cell (p := ⟨b, off + i, none⟩) hb).trans (hx i hi)
  have hb2 : ∀ W : World, Below (w.heap.size + 1) w1 W → b < W.heap.size := fun W hW => Nat.lt_of_lt_of_le hb (Nat.le_trans HBB.out.size hW.size)
  obtain ⟨l1, hl1⟩ : ∃ l1, l1 = l.drop 3 := ⟨_, rfl⟩
  obtain ⟨l2, hl2⟩ : ∃ l2, l2 = l.drop 11 := ⟨_, rfl⟩
  obtain ⟨l3, hl3⟩ : ∃ l3, l3 = l.drop 43 := ⟨_, rfl⟩
  obtain ⟨l3', hl3'⟩ : ∃ l3', l3' = l.drop 51 := ⟨_, rfl⟩
  obtain ⟨l4, hl4⟩ : ∃ l4, l4 = l.drop 83 := ⟨_, rfl⟩
  obtain ⟨l4', hl4'⟩ : ∃ l4', l4' = l.drop 91 := ⟨_, rfl⟩
  have HG : Hid (getA l = ⟨256 * bt l 1 + bt l 2, unnum l1, rtOf l2, ⟨unnum l3, rtOf l3'⟩, ⟨unnum l4, rtOf l4'⟩⟩) := by
    show _ = _
    rw [hl1, hl2, hl3, hl4, hl3', hl4']
    unfold getA getC
    rw [List.drop_drop, List.drop_drop]
  have n1 : ∀ W, Below (w.heap.size + 1) w1 W → Calls Try.prog 26 #[.slice (some ⟨b, off, none⟩) l.length cap, .int .i64 3] W fun e w' => e = .returned (num (unnum l1)) ∧ w' = W := fun W hW => by
    rw [hl1]; exact numberAt_any b off cap l 3 (by omega) (by omega) W (hcells W hW)
  have r1 : ∀ W, Below (w.heap.size + 1) w1 W → Calls Try.prog 25 #[.slice (some ⟨b, off, none⟩) l.length cap, .int .i64 11] W fun e w' => e = .returned (.agg (rc (rtOf l2))) ∧ Below W.heap.size W w' := fun W hW => by
    rw [hl2]; exact rootAt_any b off cap l 11 (by omega) (by omega) W (hb2 W hW) (hcells W hW)
  have n2 : ∀ W, Below (w.heap.size + 1) w1 W → Calls Try.prog 26 #[.slice (some ⟨b, off, none⟩) l.length cap, .int .i64 43] W fun e w' => e = .returned (num (unnum l3)) ∧ w' = W := fun W hW => by
    rw [hl3]; exact numberAt_any b off cap l 43 (by omega) (by omega) W (hcells W hW)
  have r2 : ∀ W, Below (w.heap.size + 1) w1 W → Calls Try.prog 25 #[.slice (some ⟨b, off, none⟩) l.length cap, .int .i64 51] W fun e w' => e = .returned (.agg (rc (rtOf l3'))) ∧ Below W.heap.size W w' := fun W hW => by
    rw [hl3']; exact rootAt_any b off cap l 51 (by omega) (by omega) W (hb2 W hW) (hcells W hW)
  have n3 : ∀ W, Below (w.heap.size + 1) w1 W → Calls Try.prog 26 #[.slice (some ⟨b, off, none⟩) l.length cap, .int .i64 83] W fun e w' => e = .returned (num (unnum l4)) ∧ w' = W := fun W hW => by
    rw [hl4]; exact numberAt_any b off cap l 83 (by omega) (by omega) W (hcells W hW)
  have r3 : ∀ W, Below (w.heap.size + 1) w1 W → Calls Try.prog 25 #[.slice (some ⟨b, off, none⟩) l.length cap, .int .i64 91] W fun e w' => e = .returned (.agg (rc (rtOf l4'))) ∧ Below W.heap.size W w' := fun W hW => by
    rw [hl4']; exact rootAt_any b off cap l 91 (by omega) (by omega) W (hb2 W hW) (hcells W hW)
  have HN1 := Lib.hid n1; have HR1 := Lib.hid r1; have HN2 := Lib.hid n2; have HR2 := Lib.hid r2; have HN3 := Lib.hid n3; have HR3 := Lib.hid r3
  have x1 : ∀ W : World, Below (w.heap.size + 1) w1 W → W.cell? ⟨b, off + 1, none⟩ = some (.int .u8 (bt l 1)) := fun W hW => hcells W hW 1 (by omega)
  have x2 : ∀ W : World, Below (w.heap.size + 1) w1 W → W.cell? ⟨b, off + 2, none⟩ = some (.int .u8 (bt l 2)) := fun W hW => hcells W hW 2 (by omega)
  have HW1 := Lib.hid hw1
  clear n1 r1 n2 r2 n3 r3 hcells hb2 hx h h0 hl hB hw1 hres hl1 hl2 hl3 hl4 hl3' hl4'
  have HZ := Lib.hid hz
  clear hz
  go_enter Try.func15, Try.ntmps15
  go_wp2_with fail
  rw [← HW1.out]
  clear hc
  go_region_held3 (fun w' => Below (w.heap.size + 1) w1 w')
    (first | exact (Below.refl _ _).drew | assumption | exact keepSw (by assumption) (by assumption) | exact keepC (by assumption) (by assumption) HZ.out | exact keepAl (by assumption) HZ.out | exact below_stA (by assumption) (by have := HZ.out; simp; omega) | exact below_stA (keepAl (by assumption) HZ.out) (by have := HZ.out; simp; omega))
    (first
      | (go_at_call 26; refine (HN1.out _ (by assumption)).mono ?_; rintro e wq ⟨rfl, rfl⟩)
      | (go_at_call 25; refine (HR1.out _ (by assumption)).mono ?_; rintro e wq ⟨rfl, gq⟩; have kq := fun b o n h => wrA_below gq b o n h; have sq : w.heap.size + 1 ≤ wq.heap.size := by (have s1 := gq.size; have s2 := HZ.out; have s3 := Below.size (by assumption : Below (w.heap.size + 1) w1 _); omega)))
  · have HV0 : Hid (Vr 30 (w.heap.size + 1) w1 (wq.alloc (.cells (ac { za with val := 256 * bt l 1 + bt l 2, slot := unnum l1, head := rtOf l2 }) 30)) wq.heap.size (ac { za with val := 256 * bt l 1 + bt l 2, slot := unnum l1, head := rtOf l2 })) :=
      ⟨by assumption, heap_alloc_last wq _, by assumption, HZ.out⟩
    clear kq sq gq
    generalize wq.heap.size = g at *
    generalize hW : wq.alloc (.cells (ac { za with val := 256 * bt l 1 + bt l 2, slot := unnum l1, head := rtOf l2 }) 30) = W at *
    clear x1 x2 u1 u2 u3 u4
    go_wp2_with fail
    refine (HN2.out _ HV0.out.below).mono ?_
    rintro e w4 ⟨rfl, rfl⟩
    go_wp2_with fail
    refine (HR2.out _ HV0.out.below).mono ?_
    rintro e w5 ⟨rfl, g5⟩
    have HV5 := Lib.hid (HV0.out.call g5)
    have t5 := HV5.out.wr 34 33 (by rw [ac_size]; omega)
    have HV5' := Lib.hid ((HV5.out.store 34 (cc ⟨unnum l3, rtOf l3'⟩) (by rw [ac_size, cc_size]; omega)).to (ac_source _ _))
    clear g5
    go_wp2_with fail
    refine (HN3.out _ HV5'.out.below).mono ?_
    rintro e w6 ⟨rfl, rfl⟩
    clear t5
    go_wp2_with fail
    refine (HR3.out _ HV5'.out.below).mono ?_
    rintro e w7 ⟨rfl, g7⟩
    have HV7 := Lib.hid (HV5'.out.call g7)
    have t7 := HV7.out.wr 67 33 (by rw [ac_size]; omega)
    have HV7' := Lib.hid ((HV7.out.store 67 (cc ⟨unnum l4, rtOf l4'⟩) (by rw [ac_size, cc_size]; omega)).to (ac_target _ _))
    have l7 := HV7'.out.ld 100 (ac_size _)
    have t8 : wrA (stA w7 (.pointer (some ⟨g, 67, none⟩)) (.agg (cc ⟨unnum l4, rtOf l4'⟩))) (.pointer (some ⟨w.heap.size, 0, none⟩)) 100 = true := wrA_block (by rw [HV7'.out.below.block _ (Nat.lt_succ_self _)]; exact HRES.out) (ac_size za)
    have HT8 := Lib.hid t8
    clear g7
    go_wp2_with fail
    refine bodyPost_ret (results_agg2 Try.isAgg30 Try.sizeOf30 _ 2 3 rfl _ _ _ _ _ rfl rfl (ldA_stA_same HT8.out (ac_size _))) rfl ⟨?_, below_stA (HBB.out.trans (HV7'.out.below.mono (Nat.le_succ _))) (Nat.le_refl _)⟩
    rw [← HE.out, HG.out]
    rfl
  · have HV0 : Hid (Vr 30 (w.heap.size + 1) w1 (stA wq (.pointer (some ⟨w1.heap.size, 0, none⟩)) (.agg (ac { za with val := 256 * bt l 1 + bt l 2, slot := unnum l1, head := rtOf l2 }))) w1.heap.size (ac { za with val := 256 * bt l 1 + bt l 2, slot := unnum l1, head := rtOf l2 })) :=
      ⟨by assumption, by
        rw [heap_stA_same (c := ac za) (t := 30) ?_ (by rw [ac_size, ac_size]; omega), putSeg_all (by rw [ac_size, ac_size])]
        rw [gq.block _ (by simp)]
        exact heap_alloc_last w1.drew _, by rw [HZ.out]; exact Nat.le_refl _, HZ.out⟩
    clear kq sq gq
    generalize w1.heap.size = g at *
    generalize hW : stA wq (.pointer (some ⟨g, 0, none⟩)) (.agg (ac { za with val := 256 * bt l 1 + bt l 2, slot := unnum l1, head := rtOf l2 })) = W at *
    clear x1 x2 u1 u2 u3 u4
    go_wp2_with fail
    refine (HN2.out _ HV0.out.below).mono ?_
    rintro e w4 ⟨rfl, rfl⟩
    go_wp2_with fail
    refine (HR2.out _ HV0.out.below).mono ?_
    rintro e w5 ⟨rfl, g5⟩
    have HV5 := Lib.hid (HV0.out.call g5)
    have t5 := HV5.out.wr 34 33 (by rw [ac_size]; omega)
    have HV5' := Lib.hid ((HV5.out.store 34 (cc ⟨unnum l3, rtOf l3'⟩) (by rw [ac_size, cc_size]; omega)).to (ac_source _ _))
    clear g5
    go_wp2_with fail
    refine (HN3.out _ HV5'.out.below).mono ?_
    rintro e w6 ⟨rfl, rfl⟩
    clear t5
    go_wp2_with fail
    refine (HR3.out _ HV5'.out.below).mono ?_
    rintro e w7 ⟨rfl, g7⟩
    have HV7 := Lib.hid (HV5'.out.call g7)
    have t7 := HV7.out.wr 67 33 (by rw [ac_size]; omega)
    have HV7' := Lib.hid ((HV7.out.store 67 (cc ⟨unnum l4, rtOf l4'⟩) (by rw [ac_size, cc_size]; omega)).to (ac_target _ _))
    have l7 := HV7'.out.ld 100 (ac_size _)
    have t8 : wrA (stA w7 (.pointer (some ⟨g, 67, none⟩)) (.agg (cc ⟨unnum l4, rtOf l4'⟩))) (.pointer (some ⟨w.heap.size, 0, none⟩)) 100 = true := wrA_block (by rw [HV7'.out.below.block _ (Nat.lt_succ_self _)]; exact HRES.out) (ac_size za)
    have HT8 := Lib.hid t8
    clear g7
    go_wp2_with fail
    refine bodyPost_ret (results_agg2 Try.isAgg30 Try.sizeOf30 _ 2 3 rfl _ _ _ _ _ rfl rfl (ldA_stA_same HT8.out (ac_size _))) rfl ⟨?_, below_stA (HBB.out.trans (HV7'.out.below.mono (Nat.le_succ _))) (Nat.le_refl _)⟩
    rw [← HE.out, HG.out]
    rfl
  · have HV0 : Hid (Vr 30 (w.heap.size + 1) w1 (stA wq (.pointer (some ⟨w1.heap.size, 0, none⟩)) (.agg (ac { za with val := 256 * bt l 1 + bt l 2, slot := unnum l1, head := rtOf l2 }))) w1.heap.size (ac { za with val := 256 * bt l 1 + bt l 2, slot := unnum l1, head := rtOf l2 })) :=
      ⟨by assumption, by
        rw [heap_stA_same (c := ac za) (t := 30) ?_ (by rw [ac_size, ac_size]; omega), putSeg_all (by rw [ac_size, ac_size])]
        rw [gq.block _ (by simp)]
        exact heap_alloc_last w1.drew _, by rw [HZ.out]; exact Nat.le_refl _, HZ.out⟩
    clear kq sq gq
    generalize w1.heap.size = g at *
    generalize hW : stA wq (.pointer (some ⟨g, 0, none⟩)) (.agg (ac { za with val := 256 * bt l 1 + bt l 2, slot := unnum l1, head := rtOf l2 })) = W at *
    clear x1 x2 u1 u2 u3 u4
    go_wp2_with fail
    refine (HN2.out _ HV0.out.below).mono ?_
    rintro e w4 ⟨rfl, rfl⟩
    go_wp2_with fail
    refine (HR2.out _ HV0.out.below).mono ?_
    rintro e w5 ⟨rfl, g5⟩
    have HV5 := Lib.hid (HV0.out.call g5)
    have t5 := HV5.out.wr 34 33 (by rw [ac_size]; omega)
    have HV5' := Lib.hid ((HV5.out.store 34 (cc ⟨unnum l3, rtOf l3'⟩) (by rw [ac_size, cc_size]; omega)).to (ac_source _ _))
    clear g5
    go_wp2_with fail
    refine (HN3.out _ HV5'.out.below).mono ?_
    rintro e w6 ⟨rfl, rfl⟩
    clear t5
    go_wp2_with fail
    refine (HR3.out _ HV5'.out.below).mono ?_
    rintro e w7 ⟨rfl, g7⟩
    have HV7 := Lib.hid (HV5'.out.call g7)
    have t7 := HV7.out.wr 67 33 (by rw [ac_size]; omega)
    have HV7' := Lib.hid ((HV7.out.store 67 (cc ⟨unnum l4, rtOf l4'⟩) (by rw [ac_size, cc_size]; omega)).to (ac_target _ _))
    have l7 := HV7'.out.ld 100 (ac_size _)
    have t8 : wrA (stA w7 (.pointer (some ⟨g, 67, none⟩)) (.agg (cc ⟨unnum l4, rtOf l4'⟩))) (.pointer (some ⟨w.heap.size, 0, none⟩)) 100 = true := wrA_block (by rw [HV7'.out.below.block _ (Nat.lt_succ_self _)]; exact HRES.out) (ac_size za)
    have HT8 := Lib.hid t8
    clear g7
    go_wp2_with fail
    refine bodyPost_ret (results_agg2 Try.isAgg30 Try.sizeOf30 _ 2 3 rfl _ _ _ _ _ rfl rfl (ldA_stA_same HT8.out (ac_size _))) rfl ⟨?_, below_stA (HBB.out.trans (HV7'.out.below.mono (Nat.le_succ _))) (Nat.le_refl _)⟩
    rw [← HE.out, HG.out]
    rfl
theorem refAtt_any (v : Value) (l : List UInt8) (w : World) (h : SlB w v l) : Calls Try.prog 15 #[v] w (AttIs l w) := by
  cases hB : isA l with
  | true => exact refAtt_yes v l w h hB
  | false => exact refAtt_no v l w h hB
end Go.Proofs.Ytjdpndclgmdahaa
