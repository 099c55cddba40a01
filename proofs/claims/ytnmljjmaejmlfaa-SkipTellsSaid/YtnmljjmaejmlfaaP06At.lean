/-
  Package tree: At, walked: a loop over a node's line.
-/
import Derived.Test.YtnmljjmaejmlfaaP06Above
namespace Go.Proofs.Ytnmljjmaejmlfaa
open Go.RowKit Go.Shelf

attribute [local go_sem] Oper.semAt_some

def lastV {l : List Nd} {k : Nat} (pre : List (Ln l k)) : Nat := (pre.map Subtype.val).getLastD 0
theorem lastV_snoc {l : List Nd} {k : Nat} (pre : List (Ln l k)) (x : Ln l k) : lastV (pre ++ [x]) = x.1 := by unfold lastV; simp

set_option maxRecDepth 100000 in
set_option maxHeartbeats 4000000 in
theorem treeAt_no (s : SlV) (l : List Nd) (i : Int) (q : UInt64) (w : World) (h : SlE Ene w (sv s) l) (hk : isT l i = false) :
    Calls Try.prog 21 #[.agg (tr ⟨s⟩), .int .i64 i, .int .u64 (q.toNat : Int)] w fun e w' => e = .returned (.int .i64 (-1)) ∧ Below w.heap.size w w' := by
  have HP := Lib.hid (fun W (g : Below w.heap.size w W) => treePlace s l i W (slE_keep g h))
  rw [hk] at HP
  obtain ⟨W0, hW0⟩ : ∃ W0, W0 = ((w.alloc (.cells (tr ⟨s⟩) 24)).alloc (.cells #[.int .u64 (q.toNat : Int)] 25)).alloc (.cells #[.int .i64 0] 3) := ⟨_, rfl⟩
  obtain ⟨hB, h0, h1, h2, hz⟩ := heap3 w _ _ _ _ _ _ W0 hW0
  have HB := Lib.hid hB
  have H2 := Lib.hid h2
  have HW := Lib.hid hW0
  clear hW0 h hk hB h0 h1 h2 hz
  go_enter Try.func21, Try.ntmps21
  go_wp2_with fail
  rw [← HW.out]
  refine (HP.out W0 HB.out).mono ?_
  rintro e w1 ⟨rfl, g1⟩
  have G1 := Lib.hid (belowT HB.out g1)
  have hc : w1.cell? ⟨w.heap.size + 1 + 1, 0, none⟩ = some (.int .i64 0) ∧ w1.frozen? ⟨w.heap.size + 1 + 1, 0, none⟩ = false := cell_of_box (blk_keep g1 H2.out)
  obtain ⟨z0, z1⟩ := hc
  clear g1
  go_wp2_with fail
  have hs := World.cell?_setCell_same' w1 ⟨w.heap.size + 1 + 1, 0, none⟩ (.int .i64 (-1)) (by rw [z0]; rfl)
  exact bodyPost_ret (v := .int .i64 (-1)) (by simp [results, Try.results21, go_sem, hs]) rfl ⟨rfl, G1.out.setCell (p := ⟨w.heap.size + 1 + 1, 0, none⟩) (by simp; omega) _⟩

set_option maxRecDepth 100000 in
set_option maxHeartbeats 4000000 in
theorem treeAt_yes (s : SlV) (l : List Nd) (k : Nat) (q : UInt64) (w : World) (h : SlE Ene w (sv s) l) (hm : MayT l) (hk : k < l.length) :
    Calls Try.prog 21 #[.agg (tr ⟨s⟩), .int .i64 (k : Int), .int .u64 (q.toNat : Int)] w fun e w' => e = .returned (.int .i64 (atT l k q.toNat)) ∧ Below w.heap.size w w' := by
  have HP := Lib.hid (fun W (g : Below w.heap.size w W) => treePlace s l k W (slE_keep g h))
  rw [isT_nat hm hk] at HP
  have HL := Lib.hid (sv_lenN h)
  obtain ⟨p, n, cp⟩ := s
  dsimp only at HL
  obtain ⟨b1, o1, rfl, q1, x1⟩ := slE_ptr h hm.pos
  obtain ⟨W0, hW0⟩ : ∃ W0, W0 = ((w.alloc (.cells (tr ⟨⟨some ⟨b1, o1, none⟩, n, cp⟩⟩) 24)).alloc (.cells #[.int .u64 (q.toNat : Int)] 25)).alloc (.cells #[.int .i64 0] 3) := ⟨_, rfl⟩
  obtain ⟨hB, h0, h1, h2, hz⟩ := heap3 w _ _ _ _ _ _ W0 hW0
  have HB := Lib.hid hB
  have H0 := Lib.hid h0
  have H1 := Lib.hid h1
  have H2 := Lib.hid h2
  have HZ := Lib.hid hz
  have HW := Lib.hid hW0
  have HX := Lib.hid x1
  have HQ := Lib.hid q1
  have HM := Lib.hid hm
  have HK := Lib.hid hk
  obtain ⟨r, hr⟩ : ∃ r, r = atT l k q.toNat := ⟨_, rfl⟩
  rw [← hr]
  have HR := Lib.hid hr
  clear hW0 h hk hB h0 h1 h2 hz hm x1 q1 hr
  refine callsIn_wide.1 (callsIn_of_wp_marks (n := 3) Try.func21 rfl trivial (wpIn_wide.2 ?_))
  simp only [Try.ntmps21, List.size_toArray, List.length_cons, List.length_nil, Nat.reduceAdd, Nat.reduceSub, Array.replicate_succ, Array.replicate_zero, List.push_toArray, List.append_toArray, List.nil_append, List.cons_append]
  go_wp2_with fail
  rw [← HW.out]
  refine (HP.out W0 HB.out).mono ?_
  rintro e w1 ⟨rfl, g1⟩
  have G1 := Lib.hid (belowT HB.out g1)
  have G01 := Lib.hid g1
  have z1 := ldA_block (blk_keep g1 H0.out) (tr_size _)
  clear g1
  go_wp2_with fail
  refine (treeLine _ _ _).mono ?_
  rintro e w2 ⟨rfl, hw2⟩
  obtain ⟨hB2, hT2, hC2, hz2⟩ := heap2 w1 _ _ _ _ w2 hw2
  have HB2 := Lib.hid hB2
  have HT2 := Lib.hid hT2
  have HC2 := Lib.hid hC2
  have HZ2 := Lib.hid hz2
  clear hw2 hB2 hT2 hC2 hz2 z1
  go_wp2_with fail
  refine (wpIn_wide (n := 3)).1 ?_
  have hs1 : w.heap.size + 3 ≤ w1.heap.size := by have := G01.out.size; have := HZ.out; omega
  have HS1 := Lib.hid hs1
  clear hs1
  refine wpIn_rangeFunc_ownF (w0 := w2) rfl (by omega) (gf := 41) (lb := #[.pointer (some ⟨w1.heap.size + 1, 0, none⟩), .pointer (some ⟨w1.heap.size, 0, none⟩)]) rfl trivial (entersE Try.func41 (by kernel_rfl) (by kernel_rfl))
    (line_stops Fence.wide 2 trivial rfl (by omega) (w1.heap.size + 1) w1.heap.size b1 o1 n cp w2.heap.size l k w2 HM.out HL.out (by have := HL.out; have := HK.out; omega)
      (cell_of_box HC2.out).1 HT2.out (keepR (belowT G1.out HB2.out) HX.out) (by have := HZ2.out; omega) (by have := HZ2.out; omega) (by have := HQ.out; have := HS1.out; have := HZ2.out; omega) (Nat.le_refl _))
    belowK_t (belowK_b (Nat.le_refl _)) (Below.refl _ _) (fun _ => rfl)
    (fun pre W => (∀ y ∈ pre, q.toNat < sl l y.1) ∧ Below w2.heap.size w2 W)
    (fun c pre W => (((c = .ret ∧ ∃ (ys : List (Ln l k)) (x : Ln l k), pre = ys ++ [x] ∧ (∀ y ∈ ys, q.toNat < sl l y.1) ∧ sl l x.1 ≤ q.toNat) ∧ W.cell? ⟨w.heap.size + 1 + 1, 0, none⟩ = some (.int .i64 (lastV pre : Int))) ∧ Below w.heap.size w W))
    (own_go _ (Nat.le_refl _)) (fun c => own_left (w := w) (B := w2.heap.size) (fun pre : List (Ln l k) => c = .ret ∧ ∃ (ys : List (Ln l k)) (x : Ln l k), pre = ys ++ [x] ∧ (∀ y ∈ ys, q.toNat < sl l y.1) ∧ sl l x.1 ≤ q.toNat) _ (fun pre => .int .i64 (lastV pre : Int)) (by have := HZ2.out; have := HS1.out; omega))
    ⟨fun _ h => absurd h List.not_mem_nil, Below.refl _ _⟩ ?a1 ?assign ?body ?done ?stop
  case assign =>
    intro lo x W K hK
    gi_wp2
    exact hK
  case body =>
    rintro lo pre x W ⟨hp, hB⟩ hlen
    have HP := Lib.hid hp
    have HBW := Lib.hid hB
    have hg := belowT G01.out (belowT HB2.out hB)
    have c1 := wd_cell (cell_of_box (blk_keep hg H1.out)).1
    obtain ⟨c2, c3⟩ := cell_of_box (blk_keep hg H2.out)
    have HC2' : Hid (W.cell? ⟨w.heap.size + 1 + 1, 0, none⟩ = some (.int .i64 0) ∧ W.frozen? ⟨w.heap.size + 1 + 1, 0, none⟩ = false) := ⟨c2, c3⟩
    have HBw : Hid (Below w.heap.size w W) := belowT G1.out (belowT HB2.out hB)
    obtain ⟨z0, z1, zl⟩ := tr_cells (blk_keep hg H0.out)
    dsimp only at z0
    rw [sv_mk] at z0
    have c0 := wd_cell z0
    obtain ⟨x, hx⟩ := x
    have hxn : x < n := by have := line_lt HM.out HK.out hx; have := HL.out; omega
    have y2 := wd_cell (nds_slot (keepR HBw.out HX.out) (i := x) (by have := HL.out; omega))
    have u1 : (x : Int) < (n : Int) := by omega
    have u2 : (0 : Int) ≤ (x : Int) := by omega
    have HXN := Lib.hid hx
    clear hp hB c2 c3 hlen z0 z1 hg
    by_cases he : sl l x ≤ q.toNat
    · have t1 : decide ((nd l x).slot.toNat ≤ q.toNat) = true := decide_eq_true he
      have t1' : decide (((nd l x).slot.toNat : Int) ≤ (q.toNat : Int)) = true := by rw [decide_eq_true_iff]; unfold sl at he; omega
      have HE := Lib.hid he
      clear he
      gi_wp2
      refine wpIn_region_lexR [] (by kernel_rfl) (by kernel_rfl) (by kernel_rfl) (by kernel_rfl) ?_
      repeat (refine wpXL_quiet rfl rfl _ cls_begin ?_; (first | go_big_quiet_step (fail) | quiet_step (fail)); refine wpQuiet_nil ?_)
      refine wpXL_nil ⟨rfl, ?_⟩
      obtain ⟨c2, c3⟩ := HC2'.out
      gi_wp2
      exact ⟨(KeepsOthers.drew W).trans (KeepsOthers.setCell _ _ _), ⟨⟨rfl, pre, ⟨x, HXN.out⟩, rfl, HP.out, HE.out⟩, by rw [lastV_snoc]; exact World.cell?_setCell_same' _ _ _ (by show (W.cell? _).isSome = true; rw [HC2'.out.1]; rfl)⟩, (belowD HBw.out 1).setCell (p := ⟨w.heap.size + 1 + 1, 0, none⟩) (by simp; omega) _⟩
    · have t1 : decide ((nd l x).slot.toNat ≤ q.toNat) = false := decide_eq_false he
      have t1' : decide (((nd l x).slot.toNat : Int) ≤ (q.toNat : Int)) = false := by rw [decide_eq_false_iff_not]; unfold sl at he; omega
      have HE := Lib.hid he
      clear he
      gi_wp2
      refine wpIn_region_lexR [] (by kernel_rfl) (by kernel_rfl) (by kernel_rfl) (by kernel_rfl) ?_
      repeat (refine wpXL_quiet rfl rfl _ cls_begin ?_; (first | go_big_quiet_step (fail) | quiet_step (fail)); refine wpQuiet_nil ?_)
      refine wpXL_nil ⟨rfl, ?_⟩
      gi_wp2
      exact ⟨KeepsOthers.drew W, belowD (Below.refl _ _) 1, fun y hy => by
        rcases List.mem_append.1 hy with h | h
        · exact HP.out y h
        · rw [List.mem_singleton] at h; subst h; have := HE.out; show q.toNat < sl l x; omega, belowD HBW.out 1⟩
  case done =>
    rintro D ys W hD hys ⟨hp, hB⟩ hK
    have hX : r = -1 := by
      rw [HR.out]
      refine line_not HM.out q.toNat HK.out fun y hy => ?_
      rw [← hys] at hy
      obtain ⟨z, hz, e⟩ := List.mem_map.1 hy
      rw [← e]
      exact hp z hz
    have HX' := Lib.hid hX
    have HKD := Lib.hid hK
    have hc : W.cell? ⟨w.heap.size + 1 + 1, 0, none⟩ = some (.int .i64 0) ∧ W.frozen? ⟨w.heap.size + 1 + 1, 0, none⟩ = false := cell_of_box (blk_keep (belowT G01.out (belowT HB2.out hB)) H2.out)
    have HC := Lib.hid hc
    obtain ⟨c2, c3⟩ := hc
    have HBw : Hid (Below w.heap.size w W) := belowT G1.out (belowT HB2.out hB)
    clear hX hp hB hK hys
    go_wp2_with fail
    have hK' := (KeepsOthers.setCell W ⟨w.heap.size + 1 + 1, 0, none⟩ (.int .i64 (-1))).same D _ HKD.out rfl
    have hs := cell_shut hK' (World.cell?_setCell_same' W ⟨w.heap.size + 1 + 1, 0, none⟩ (.int .i64 (-1)) (by rw [HC.out.1]; rfl))
    exact leave_M (v := .int .i64 (-1)) hK' ⟨by simp [results, Try.results21, go_sem, hs], by rw [HX'.out], below_shut hK' (HBw.out.setCell (p := ⟨w.heap.size + 1 + 1, 0, none⟩) (by simp; omega) _) (by have := HZ2.out; have := HS1.out; omega)⟩
  case stop =>
    rintro D c pre W hD hpre ⟨⟨⟨rfl, ys, x, rfl, ha, hx⟩, hc⟩, hB⟩ hK
    rw [lastV_snoc] at hc
    have hX : r = (x.1 : Int) := by
      rw [HR.out]
      obtain ⟨t, ht⟩ := hpre
      rw [List.map_append, List.append_assoc] at ht
      refine line_at HM.out q.toNat k HK.out (ys.map Subtype.val) t x.1 ht.symm (fun y hy => ?_) hx
      obtain ⟨z, hz, e⟩ := List.mem_map.1 hy
      rw [← e]
      exact ha z hz
    have HX' := Lib.hid hX
    have HBW := Lib.hid hB
    have HKD := Lib.hid hK
    have hs := cell_shut hK hc
    have HD := Lib.hid hD
    clear hX hB ha hx hpre
    gi_wp2
    exact leave_M (v := .int .i64 (x.1 : Int)) HKD.out ⟨by simp [results, Try.results21, go_sem, hs], by rw [HX'.out], below_shut HKD.out HBW.out (by have := HZ2.out; have := HS1.out; have := HD.out; omega)⟩
/-- At. -/
theorem treeAt (s : SlV) (l : List Nd) (i : Int) (q : UInt64) (w : World) (h : SlE Ene w (sv s) l) :
    Calls Try.prog 21 #[.agg (tr ⟨s⟩), .int .i64 i, .int .u64 (q.toNat : Int)] w fun e w' => e = .returned (.int .i64 (atZ l i q.toNat)) ∧ Below w.heap.size w w' := by
  by_cases hk : isT l i = true
  · obtain ⟨hm, hk0, hk1⟩ := isT_iff.1 hk
    obtain ⟨k', rfl⟩ : ∃ k' : Nat, i = k' := ⟨i.toNat, by omega⟩
    rw [atZ_nat hm (by omega)]
    exact treeAt_yes s l k' q w h hm (by omega)
  · have hk' : isT l i = false := by simpa using hk
    unfold atZ
    rw [hk', if_neg Bool.false_ne_true]
    exact treeAt_no s l i q w h hk'
theorem enters_at06 : ∀ args w, (callFunc 21 args).run Try.prog w = .ok (.enter 21 args) w := entersE Try.func21 (by kernel_rfl) (by kernel_rfl)
end Go.Proofs.Ytnmljjmaejmlfaa
