/-
  Package tree: Above, walked: a loop over a node's line.
-/
import Derived.Test.YtjmpgphoiehdmaaP06Line
namespace Go.Proofs.Ytjmpgphoiehdmaa
open Go.RowKit Go.Shelf

attribute [local go_sem] Oper.semAt_some

set_option maxRecDepth 100000 in
set_option maxHeartbeats 4000000 in
theorem treeAbove_no (s : SlV) (l : List Nd) (i k : Int) (w : World) (h : SlE Ene w (sv s) l) (hk : isT l k = false) :
    Calls Try.prog 22 #[.agg (tr ⟨s⟩), .int .i64 i, .int .i64 k] w fun e w' => e = .returned (.bool false) ∧ Below w.heap.size w w' := by
  have HP := Lib.hid (fun W (g : Below w.heap.size w W) => treePlace s l k W (slE_keep g h))
  rw [hk] at HP
  obtain ⟨W0, hW0⟩ : ∃ W0, W0 = ((w.alloc (.cells (tr ⟨s⟩) 24)).alloc (.cells #[.int .i64 i] 3)).alloc (.cells #[.bool false] 4) := ⟨_, rfl⟩
  obtain ⟨hB, h0, h1, h2, hz⟩ := heap3 w _ _ _ _ _ _ W0 hW0
  have HB := Lib.hid hB
  have H2 := Lib.hid h2
  have HW := Lib.hid hW0
  clear hW0 h hk hB h0 h1 h2 hz
  go_enter Try.func22, Try.ntmps22
  go_wp2_with fail
  rw [← HW.out]
  refine (HP.out W0 HB.out).mono ?_
  rintro e w1 ⟨rfl, g1⟩
  have G1 := Lib.hid (belowT HB.out g1)
  have hc : w1.cell? ⟨w.heap.size + 1 + 1, 0, none⟩ = some (.bool false) ∧ w1.frozen? ⟨w.heap.size + 1 + 1, 0, none⟩ = false := cell_of_box (blk_keep g1 H2.out)
  obtain ⟨z0, z1⟩ := hc
  clear g1
  go_wp2_with fail
  have hs := World.cell?_setCell_same' w1 ⟨w.heap.size + 1 + 1, 0, none⟩ (.bool false) (by rw [z0]; rfl)
  exact bodyPost_ret (v := .bool false) (by simp [results, Try.results22, go_sem, hs]) rfl ⟨rfl, G1.out.setCell (p := ⟨w.heap.size + 1 + 1, 0, none⟩) (by simp; omega) _⟩

set_option maxRecDepth 100000 in
set_option maxHeartbeats 4000000 in
theorem treeAbove_yes (s : SlV) (l : List Nd) (i : Int) (k : Nat) (w : World) (h : SlE Ene w (sv s) l) (hm : MayT l) (hk : k < l.length) :
    Calls Try.prog 22 #[.agg (tr ⟨s⟩), .int .i64 i, .int .i64 (k : Int)] w fun e w' => e = .returned (.bool (decide (0 ≤ i) && aboveT l i.toNat k)) ∧ Below w.heap.size w w' := by
  have HP := Lib.hid (fun W (g : Below w.heap.size w W) => treePlace s l k W (slE_keep g h))
  rw [isT_nat hm hk] at HP
  have HL := Lib.hid (sv_lenN h)
  obtain ⟨p, n, cp⟩ := s
  dsimp only at HL
  obtain ⟨b1, o1, rfl, q1, x1⟩ := slE_ptr h hm.pos
  obtain ⟨W0, hW0⟩ : ∃ W0, W0 = ((w.alloc (.cells (tr ⟨⟨some ⟨b1, o1, none⟩, n, cp⟩⟩) 24)).alloc (.cells #[.int .i64 i] 3)).alloc (.cells #[.bool false] 4) := ⟨_, rfl⟩
  obtain ⟨hB, h0, h1, h2, hz⟩ := heap3 w _ _ _ _ _ _ W0 hW0
  have HB := Lib.hid hB
  have H0 := Lib.hid h0
  have H1 := Lib.hid h1
  have H2 := Lib.hid h2
  have HZ := Lib.hid hz
  have HW := Lib.hid hW0
  have HX := Lib.hid x1
  have HQ := Lib.hid q1
  have HM := Lib.hid hm
  have HK := Lib.hid hk
  obtain ⟨r, hr⟩ : ∃ r, r = (decide (0 ≤ i) && aboveT l i.toNat k) := ⟨_, rfl⟩
  rw [← hr]
  have HR := Lib.hid hr
  clear hW0 h hk hB h0 h1 h2 hz hm x1 q1 hr
  refine callsIn_wide.1 (callsIn_of_wp_marks (n := 3) Try.func22 rfl trivial (wpIn_wide.2 ?_))
  simp only [Try.ntmps22, List.size_toArray, List.length_cons, List.length_nil, Nat.reduceAdd, Nat.reduceSub, Array.replicate_succ, Array.replicate_zero, List.push_toArray, List.append_toArray, List.nil_append, List.cons_append]
  go_wp2_with fail
  rw [← HW.out]
  refine (HP.out W0 HB.out).mono ?_
  rintro e w1 ⟨rfl, g1⟩
  have G1 := Lib.hid (belowT HB.out g1)
  have G01 := Lib.hid g1
  have z1 := ldA_block (blk_keep g1 H0.out) (tr_size _)
  clear g1
  go_wp2_with fail
  refine (treeLine _ _ _).mono ?_
  rintro e w2 ⟨rfl, hw2⟩
  obtain ⟨hB2, hT2, hC2, hz2⟩ := heap2 w1 _ _ _ _ w2 hw2
  have HB2 := Lib.hid hB2
  have HT2 := Lib.hid hT2
  have HC2 := Lib.hid hC2
  have HZ2 := Lib.hid hz2
  clear hw2 hB2 hT2 hC2 hz2 z1
  go_wp2_with fail
  refine (wpIn_wide (n := 3)).1 ?_
  have hs1 : w.heap.size + 3 ≤ w1.heap.size := by have := G01.out.size; have := HZ.out; omega
  have HS1 := Lib.hid hs1
  clear hs1
  refine wpIn_rangeFunc_ownF (w0 := w2) rfl (by omega) (gf := 37) (lb := #[.pointer (some ⟨w1.heap.size + 1, 0, none⟩), .pointer (some ⟨w1.heap.size, 0, none⟩)]) rfl trivial (entersE Try.func37 (by kernel_rfl) (by kernel_rfl))
    (line_stops Fence.wide 2 trivial rfl (by omega) (w1.heap.size + 1) w1.heap.size b1 o1 n cp w2.heap.size l k w2 HM.out HL.out (by have := HL.out; have := HK.out; omega)
      (cell_of_box HC2.out).1 HT2.out (keepR (belowT G1.out HB2.out) HX.out) (by have := HZ2.out; omega) (by have := HZ2.out; omega) (by have := HQ.out; have := HS1.out; have := HZ2.out; omega) (Nat.le_refl _))
    belowK_t (belowK_b (Nat.le_refl _)) (Below.refl _ _) (fun _ => rfl)
    (fun pre W => (∀ y ∈ pre, ((y.1 : Nat) : Int) ≠ i) ∧ Below w2.heap.size w2 W)
    (fun c pre W => (((c = .ret ∧ ∃ y ∈ pre, ((y.1 : Nat) : Int) = i) ∧ W.cell? ⟨w.heap.size + 1 + 1, 0, none⟩ = some (.bool true)) ∧ Below w.heap.size w W))
    (own_go _ (Nat.le_refl _)) (fun c => own_left (w := w) (B := w2.heap.size) (fun pre : List (Ln l k) => c = .ret ∧ ∃ y ∈ pre, ((y.1 : Nat) : Int) = i) _ (fun _ => .bool true) (by have := HZ2.out; have := HS1.out; omega))
    ⟨fun _ h => absurd h List.not_mem_nil, Below.refl _ _⟩ ?a1 ?assign ?body ?done ?stop
  case assign =>
    intro lo x W K hK
    gi_wp2
    exact hK
  case body =>
    rintro lo pre x W ⟨hp, hB⟩ hlen
    have HP := Lib.hid hp
    have HBW := Lib.hid hB
    have c1 := (cell_of_box (blk_keep (belowT G01.out (belowT HB2.out hB)) H1.out)).1
    obtain ⟨c2, c3⟩ := cell_of_box (blk_keep (belowT G01.out (belowT HB2.out hB)) H2.out)
    have HC2' : Hid (W.cell? ⟨w.heap.size + 1 + 1, 0, none⟩ = some (.bool false) ∧ W.frozen? ⟨w.heap.size + 1 + 1, 0, none⟩ = false) := ⟨c2, c3⟩
    have HBw : Hid (Below w.heap.size w W) := belowT G1.out (belowT HB2.out hB)
    clear hp hB c2 c3 hlen
    obtain ⟨c2, c3⟩ := HC2'.out
    by_cases he : ((x.1 : Nat) : Int) = i
    · have t1 : (((x.1 : Nat) : Int) == i) = true := by simpa using he
      have HE := Lib.hid he
      clear he
      gi_wp2
      exact ⟨KeepsOthers.setCell _ _ _, ⟨⟨rfl, x, by simp, HE.out⟩, World.cell?_setCell_same' _ _ _ (by rw [HC2'.out.1]; rfl)⟩, HBw.out.setCell (p := ⟨w.heap.size + 1 + 1, 0, none⟩) (by simp; omega) _⟩
    · have t1 : (((x.1 : Nat) : Int) == i) = false := by simpa using he
      have HE := Lib.hid he
      clear he
      gi_wp2
      exact ⟨KeepsOthers.refl _, Below.refl _ _, fun y hy => by
        rcases List.mem_append.1 hy with h | h
        · exact HP.out y h
        · rw [List.mem_singleton] at h; subst h; exact HE.out, HBW.out⟩
  case done =>
    rintro D ys W hD hys ⟨hp, hB⟩ hK
    have hX : r = false := by
      rw [HR.out, Bool.and_eq_false_iff, ← Bool.not_eq_true]
      by_cases h0 : 0 ≤ i
      · right
        rw [← Bool.not_eq_true]
        intro ha
        have hin := (line_mem HM.out i.toNat k HK.out).2 ha
        rw [← hys] at hin
        obtain ⟨y, hy, e⟩ := List.mem_map.1 hin
        exact hp y hy (by omega)
      · left; simpa using h0
    have HX' := Lib.hid hX
    have HKD := Lib.hid hK
    have HBW := Lib.hid hB
    have hc : W.cell? ⟨w.heap.size + 1 + 1, 0, none⟩ = some (.bool false) ∧ W.frozen? ⟨w.heap.size + 1 + 1, 0, none⟩ = false := cell_of_box (blk_keep (belowT G01.out (belowT HB2.out hB)) H2.out)
    have HC := Lib.hid hc
    obtain ⟨c2, c3⟩ := hc
    have HBw : Hid (Below w.heap.size w W) := belowT G1.out (belowT HB2.out hB)
    clear hX hp hB hK hys
    go_wp2_with fail
    have hK' := (KeepsOthers.setCell W ⟨w.heap.size + 1 + 1, 0, none⟩ (.bool false)).same D _ HKD.out rfl
    have hs := cell_shut hK' (World.cell?_setCell_same' W ⟨w.heap.size + 1 + 1, 0, none⟩ (.bool false) (by rw [HC.out.1]; rfl))
    exact leave_M (v := .bool false) hK' ⟨by simp [results, Try.results22, go_sem, hs], by rw [HX'.out], below_shut hK' (HBw.out.setCell (p := ⟨w.heap.size + 1 + 1, 0, none⟩) (by simp; omega) _) (by have := HZ2.out; have := HS1.out; omega)⟩
  case stop =>
    rintro D c pre W hD hpre ⟨⟨⟨rfl, y, hy, he⟩, hc⟩, hB⟩ hK
    have hX : r = true := by
      rw [HR.out, Bool.and_eq_true, decide_eq_true_iff]
      refine ⟨by omega, (line_mem HM.out i.toNat k HK.out).1 ?_⟩
      rw [show i.toNat = y.1 by omega]
      exact hpre.subset (List.mem_map_of_mem hy)
    have HX' := Lib.hid hX
    have HBW := Lib.hid hB
    have HKD := Lib.hid hK
    have hs := cell_shut hK hc
    have HD := Lib.hid hD
    clear hX hB hy he hpre
    gi_wp2
    exact leave_M (v := .bool true) HKD.out ⟨by simp [results, Try.results22, go_sem, hs], by rw [HX'.out], below_shut HKD.out HBW.out (by have := HZ2.out; have := HS1.out; have := HD.out; omega)⟩
/-- Above. -/
theorem treeAbove (s : SlV) (l : List Nd) (i k : Int) (w : World) (h : SlE Ene w (sv s) l) :
    Calls Try.prog 22 #[.agg (tr ⟨s⟩), .int .i64 i, .int .i64 k] w fun e w' => e = .returned (.bool (aboveZ l i k)) ∧ Below w.heap.size w w' := by
  by_cases hk : isT l k = true
  · obtain ⟨hm, hk0, hk1⟩ := isT_iff.1 hk
    obtain ⟨k', rfl⟩ : ∃ k' : Nat, k = k' := ⟨k.toNat, by omega⟩
    have e : aboveZ l i (k' : Int) = (decide (0 ≤ i) && aboveT l i.toNat k') := by
      unfold aboveZ
      rw [hk, Int.toNat_natCast, Bool.and_true]
      by_cases h0 : 0 ≤ i
      · rw [decide_eq_true h0, Bool.true_and]
        by_cases ha : aboveT l i.toNat k' = true
        · have := above_le hm i.toNat k' (by omega) ha
          rw [ha, Bool.and_true]
          exact isT_iff.2 ⟨hm, h0, by omega⟩
        · rw [Bool.not_eq_true] at ha
          rw [ha, Bool.and_false]
      · have : isT l i = false := by
          rw [← Bool.not_eq_true, isT_iff]
          exact fun hh => h0 hh.2.1
        rw [this, decide_eq_false h0]
    rw [e]
    exact treeAbove_yes s l i k' w h hm (by omega)
  · have hk' : isT l k = false := by simpa using hk
    have e : aboveZ l i k = false := by unfold aboveZ; rw [hk', Bool.and_false, Bool.false_and]
    rw [e]
    exact treeAbove_no s l i k w h hk'
theorem enters_above06 : ∀ args w, (callFunc 22 args).run Try.prog w = .ok (.enter 22 args) w := entersE Try.func22 (by kernel_rfl) (by kernel_rfl)
end Go.Proofs.Ytjmpgphoiehdmaa
