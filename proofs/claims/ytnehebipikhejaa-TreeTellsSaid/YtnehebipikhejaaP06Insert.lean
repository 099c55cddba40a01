/-
  Package tree: Insert, walked.
-/
import Derived.Test.YtnehebipikhejaaP06Refuse
import Derived.Test.YtnehebipikhejaaP06Clone
import Derived.Test.YtnehebipikhejaaTreeIs
import Derived.Test.YtnehebipikhejaaLexA
namespace Go.Proofs.Ytnehebipikhejaa
open Go.RowKit

set_option maxRecDepth 100000 in
set_option maxHeartbeats 4000000 in
theorem treeInsert_no (p : Option Addr) (n cp : Nat) (l : List Nd) (x : Bk) (w : World) (h : SlE Ene w (.slice p n cp) l) (hl : l.length = n) (hn : n * 56 ≤ 140737488355328) (hy : insE l x.root x.parent x.slot ≠ 0) :
    Calls Try.prog 12 #[.agg (tr ⟨⟨p, n, cp⟩⟩), .agg (bk x)] w (TreeEr l (insE l x.root x.parent x.slot) w) := by
  have HC := Lib.hid (fun W (g : Below w.heap.size w W) => cloneNe ⟨p, n, cp⟩ l W (slE_keep g h) (by rw [hl]; exact hn))
  have HR := Lib.hid (fun W (g : Below w.heap.size w W) => treeRefuse ⟨p, n, cp⟩ l x W (slE_keep g h))
  obtain ⟨y, hyy⟩ : ∃ y, y = insE l x.root x.parent x.slot := ⟨_, rfl⟩
  rw [← hyy] at HR hy ⊢
  have HL := Lib.hid hl
  obtain ⟨W0, hW0⟩ : ∃ W0, W0 = ((w.alloc (.cells (tr ⟨⟨p, n, cp⟩⟩) 24)).alloc (.cells (bk x) 29)).alloc (.cells (tr ztr) 24) := ⟨_, rfl⟩
  obtain ⟨hB, h0, h1, h2, hz⟩ := heap3 w _ _ _ _ _ _ W0 hW0
  have HB := Lib.hid hB
  have H0 := Lib.hid h0
  have H1 := Lib.hid h1
  have H2 := Lib.hid h2
  have HZ := Lib.hid hz
  have HW := Lib.hid hW0
  have t1 : ((y : Int) != 0) = true := by simp; omega
  clear h hl hn hyy hW0 hB h0 h1 h2 hz hy
  go_enter Try.func12, Try.ntmps12
  go_wp2_with fail
  rw [← HW.out]
  refine (HC.out W0 HB.out).mono ?_
  rintro e w1 ⟨v, rfl, o1, g1⟩
  obtain ⟨p1, c1, rfl⟩ := ownE_len o1 HL.out
  obtain ⟨W2, hW2⟩ : ∃ W2, W2 = w1.alloc (.cells (tr ⟨⟨p1, n, c1⟩⟩) 24) := ⟨_, rfl⟩
  have g2 : Below W0.heap.size W0 W2 := by rw [hW2]; exact belowT g1 below1
  have HM2 : Hid (W2.heap[w1.heap.size]? = some (.cells (tr ⟨⟨p1, n, c1⟩⟩) 24 (0, 0))) := by rw [hW2]; exact heap_alloc_last w1 _
  have G2 := Lib.hid g2
  have HO2 : Hid (OwnE Ene W2 W0.heap.size (.slice p1 n c1) l) := by rw [hW2]; exact ownE_alloc o1 _
  have HW2 := Lib.hid hW2
  have z1 := ldA_block (blk_keep g1 H0.out) (tr_size _)
  have z2 := ldA_block (blk_keep g1 H1.out) (bk_size _)
  have z3 : w.heap.size < w1.heap.size := (Array.getElem?_eq_some_iff.1 (blk_keep g1 H0.out)).1
  have z4 : w.heap.size + 1 < w1.heap.size := (Array.getElem?_eq_some_iff.1 (blk_keep g1 H1.out)).1
  clear o1 g2 hW2 g1
  go_wp2_with fail
  rw [← HW2.out]
  refine (HR.out W2 (belowT HB.out G2.out)).mono ?_
  rintro e w3 ⟨rfl, g3⟩
  have G3 := Lib.hid (belowT G2.out g3)
  have HO3 := Lib.hid (ownE_keep g3 HO2.out)
  have M3 := blk_keep g3 HM2.out
  have N3 := Lib.hid (blk_keep (belowT G2.out g3) H2.out)
  have y1 := ldA_block M3 (tr_size _)
  have y2 := wrA_block N3.out (tr_size _)
  clear z1 z2 z3 z4 g3 M3
  go_wp2_with fail
  exact bodyPost_ret (results_agg2 Try.isAgg24 Try.sizeOf24 _ 4 5 rfl _ _ _ _ _ rfl rfl (put_whole' N3.out (tr_size _) (tr_size _))) rfl ⟨⟨p1, n, c1⟩, rfl, slE_stA' (ownE_slE HO3.out) (fun e => by have := (ownE_lt HO3.out e).1; have := HZ.out; omega), below_stA (belowT HB.out G3.out) (by omega)⟩

set_option maxRecDepth 100000 in
set_option maxHeartbeats 4000000 in
theorem treeInsert_yes (p : Option Addr) (n cp : Nat) (l : List Nd) (x : Bk) (w : World) (h : SlE Ene w (.slice p n cp) l) (hl : l.length = n) (hy : insE l x.root x.parent x.slot = 0) :
    Calls Try.prog 12 #[.agg (tr ⟨⟨p, n, cp⟩⟩), .agg (bk x)] w (TreeEr (l ++ [insN l x.root x.parent x.slot x.just]) 0 w) := by
  have hn12 := (insE_zero hy).2.2.2.2
  have HN : Hid (n ≤ 12) := by show n ≤ 12; omega
  have HC := Lib.hid (fun W (g : Below w.heap.size w W) => cloneNe ⟨p, n, cp⟩ l W (slE_keep g h) (by omega))
  have HR := Lib.hid (fun W (g : Below w.heap.size w W) => treeRefuse ⟨p, n, cp⟩ l x W (slE_keep g h))
  rw [hy] at HR
  have HF := Lib.hid (fun W (g : Below w.heap.size w W) => treeFind ⟨p, n, cp⟩ l x.parent W (slE_keep g h))
  obtain ⟨q, hq⟩ : ∃ q, q = findT l x.parent := ⟨_, rfl⟩
  obtain ⟨m, hm⟩ : ∃ m, m = insN l x.root x.parent x.slot x.just := ⟨_, rfl⟩
  have HMN : Hid (m = ⟨x.root, q, x.slot, x.just⟩) := by show m = _; rw [hm, hq]; rfl
  rw [← hm]
  rw [← hq] at HF
  have HL := Lib.hid hl
  obtain ⟨W0, hW0⟩ : ∃ W0, W0 = ((w.alloc (.cells (tr ⟨⟨p, n, cp⟩⟩) 24)).alloc (.cells (bk x) 29)).alloc (.cells (tr ztr) 24) := ⟨_, rfl⟩
  obtain ⟨hB, h0, h1, h2, hz⟩ := heap3 w _ _ _ _ _ _ W0 hW0
  have HB := Lib.hid hB
  have H0 := Lib.hid h0
  have H1 := Lib.hid h1
  have H2 := Lib.hid h2
  have HZ := Lib.hid hz
  have HW := Lib.hid hW0
  clear h hl hn12 hW0 hB h0 h1 h2 hz hy hq hm
  go_enter Try.func12, Try.ntmps12
  go_wp2_with fail
  rw [← HW.out]
  refine (HC.out W0 HB.out).mono ?_
  rintro e w1 ⟨v, rfl, o1, g1⟩
  obtain ⟨p1, c1, rfl⟩ := ownE_len o1 HL.out
  obtain ⟨W2, hW2⟩ : ∃ W2, W2 = w1.alloc (.cells (tr ⟨⟨p1, n, c1⟩⟩) 24) := ⟨_, rfl⟩
  have g2 : Below W0.heap.size W0 W2 := by rw [hW2]; exact belowT g1 below1
  have HM2 : Hid (W2.heap[w1.heap.size]? = some (.cells (tr ⟨⟨p1, n, c1⟩⟩) 24 (0, 0))) := by rw [hW2]; exact heap_alloc_last w1 _
  have G2 := Lib.hid g2
  have HO1 : Hid (OwnE Ene W2 W0.heap.size (.slice p1 n c1) l) := by rw [hW2]; exact ownE_alloc o1 _
  have HO1b : Hid ((Value.slice p1 n c1).ownBlock ≠ some w1.heap.size) := ownE_ne o1 (Nat.le_refl _)
  have HW2 := Lib.hid hW2
  have z1 := ldA_block (blk_keep g1 H0.out) (tr_size _)
  have z2 := ldA_block (blk_keep g1 H1.out) (bk_size _)
  have z3 : w.heap.size < w1.heap.size := (Array.getElem?_eq_some_iff.1 (blk_keep g1 H0.out)).1
  have z4 : w.heap.size + 1 < w1.heap.size := (Array.getElem?_eq_some_iff.1 (blk_keep g1 H1.out)).1
  have HZ4 : Hid (w.heap.size + 3 ≤ w1.heap.size) := by show _ ≤ _; have := g1.size; have := HZ.out; omega
  clear o1 g2 hW2 g1
  go_wp2_with fail
  rw [← HW2.out]
  refine (HR.out W2 (belowT HB.out G2.out)).mono ?_
  rintro e w3 ⟨rfl, g3⟩
  have G3 := Lib.hid (belowT G2.out g3)
  have B3 := Lib.hid (belowT HB.out (belowT G2.out g3))
  have HO3 := Lib.hid (ownE_keep g3 HO1.out)
  have M3 := Lib.hid (blk_keep g3 HM2.out)
  have N3 := Lib.hid (blk_keep (belowT G2.out g3) H2.out)
  have K0 := Lib.hid (blk_keep (belowT G2.out g3) H0.out)
  have K1 := Lib.hid (blk_keep (belowT G2.out g3) H1.out)
  clear z1 z2 z3 z4 g3
  go_wp2_with fail
  have hwB : w.heap.size + 2 ≤ w3.heap.size := by have := G3.out.size; have := HZ.out; omega
  have Q0 := wd_cell (tr_cells M3.out).1
  dsimp only at Q0
  rw [sv_mk] at Q0
  have Q1 := wdB_ld (B := w.heap.size + 2) (tr_cells K0.out).2.1 (by omega)
  obtain ⟨k0, k1, k2, k3, _, _⟩ := bk_cells K1.out
  have Q2 := wdB_ld (B := w.heap.size + 2) k0 (by omega)
  have Q3 := wdB_ld (B := w.heap.size + 2) k1 (by omega)
  have Q4 := wdB_cell (B := w.heap.size + 2) k2 (by omega)
  have Q5 := wdB_cell (B := w.heap.size + 2) k3 (by omega)
  clear k0 k1 k2 k3
  refine wp_region_lexT (w.heap.size + 2) [1] [7, 12, 13, 14, 16] (by kernel_rfl) (by kernel_rfl) (by kernel_rfl) ?_
  refine wpXT_quiet2 rfl rfl rfl hwB ?_
  (first | go_big_quiet_step (fail) | quiet_step (fail)); refine wpQuiet_nil ?_
  refine wpXT_quiet1 rfl rfl rfl hwB ?_
  (first | go_big_quiet_step (fail) | quiet_step (fail)); refine wpQuiet_nil ?_
  repeat (refine wpXT_quiet2 rfl rfl rfl hwB ?_; (first | go_big_quiet_step (fail) | quiet_step (fail)); refine wpQuiet_nil ?_)
  refine wpXT_call rfl rfl rfl enters_find06 #[.agg (tr ⟨⟨p, n, cp⟩⟩), .agg (rc x.parent)] rfl ?_
  refine (HF.out w3.drew (belowT B3.out (belowD (Below.refl _ _) 1))).mono ?_
  rintro e u ⟨rfl, gu⟩
  refine ⟨_, rfl, gu, ?_⟩
  simp only [Act.put, List.setIfInBounds_toArray, List.set_cons_zero, List.set_cons_succ]
  have GU : Hid (Below w3.heap.size w3 u) := belowT (belowD (Below.refl _ _) 1) gu
  clear gu
  repeat (refine wpXT_quiet2 rfl rfl rfl hwB ?_; (first | go_big_quiet_step (fail) | quiet_step (fail)); refine wpQuiet_nil ?_)
  refine wpXT_eff rfl rfl (.agg (ne m)) u (by rw [HMN.out]; go_simp) (relE_lq (Below.refl _ _)) ?_
  simp only [Act.put, List.setIfInBounds_toArray, List.set_cons_zero, List.set_cons_succ]
  refine wpXT_eff rfl rfl (.slice (some ⟨u.heap.size, 0, none⟩) 1 1) (u.alloc (.cells (ne m) 47)) (by go_simp) (relE_lq below1) ?_
  simp only [Act.put, List.setIfInBounds_toArray, List.set_cons_zero, List.set_cons_succ]
  refine wpXT_append KneB rfl rfl (by kernel_rfl) (.tmp 20) (.tmp 32) rfl W0.heap.size _ l rfl (ownE_keep (belowT GU.out below1) HO3.out) _ [m] rfl (slE_lit _ [m] 1 _ _ _ rfl rfl (by simp [cellsE, Ene, ne_list])) (by have := HL.out; have := HN.out; simp [maxLen]; omega) (by have := HL.out; have := HN.out; simp; omega) (by have := G3.out.size; have := GU.out.size; simp; omega) (by have := HZ.out; omega) ?_
  intro v5 w5 o5 g5
  simp only [Act.put, List.setIfInBounds_toArray, List.set_cons_zero, List.set_cons_succ]
  have D5 : Below W0.heap.size (u.alloc (.cells (ne m) 47)) w5 := g5.own (ownE_keep (belowT GU.out below1) HO3.out) (by have := G3.out.size; have := GU.out.size; simp; omega)
  have B5 : Hid (Below w.heap.size w w5) := (belowT B3.out (belowT GU.out below1)).trans (D5.mono HB.out.size)
  have M5 := g5.heap (blk_keep (belowT GU.out below1) M3.out) HO1b.out
  have N5 : Hid (w5.heap[w.heap.size + 2]? = some (.cells (tr ztr) 24 (0, 0))) := (D5.block _ (by have := HZ.out; omega)).trans (blk_keep (belowT GU.out below1) N3.out)
  obtain ⟨p5, c5, rfl⟩ := ownE_len o5 (n := n + 1) (by rw [List.length_append, HL.out]; rfl)
  have O5 := Lib.hid o5
  have HNE5 : Hid ((Value.slice p5 (n + 1) c5).ownBlock ≠ some w1.heap.size) := by
    intro e
    rcases g5.2 with h | h
    · rw [h] at e; exact HO1b.out e
    · have k1 := h _ e
      have k2 := (Array.getElem?_eq_some_iff.1 M3.out).1
      have k3 := GU.out.size
      have k4 := (below1 (w := u) (o := .cells (ne m) 47)).size
      omega
  have c0 : w5.cell? ⟨w1.heap.size, 0, none⟩ = some (.slice p1 n c1) ∧ w5.frozen? ⟨w1.heap.size, 0, none⟩ = false := ⟨by have := (tr_cells M5).1; dsimp only at this; rw [sv_mk] at this; exact this, frozen_of_row _ _ _ _ _ M5⟩
  obtain ⟨c0, c1'⟩ := c0
  obtain ⟨W6, hW6⟩ : ∃ W6, W6 = w5.setCell ⟨w1.heap.size, 0, none⟩ (.slice p5 (n + 1) c5) := ⟨_, rfl⟩
  have M6 : Hid (W6.heap[w1.heap.size]? = some (.cells (tr ⟨⟨p5, n + 1, c5⟩⟩) 24 (0, 0))) := by
    have := heap_setCell_same M5 0 (.slice p5 (n + 1) c5)
    rw [hW6]
    rwa [tr_sets_n] at this
  have N6 : Hid (W6.heap[w.heap.size + 2]? = some (.cells (tr ztr) 24 (0, 0))) := by
    rw [hW6, Below.heap_setCell _ _ _ _ (show w.heap.size + 2 ≠ w1.heap.size by have := HZ4.out; omega)]; exact N5.out
  have B6 : Hid (Below w.heap.size w W6) := by rw [hW6]; exact B5.out.setCell (p := ⟨w1.heap.size, 0, none⟩) (by have := HZ4.out; show w.heap.size ≤ w1.heap.size; omega) _
  have S6 : Hid (SlE Ene W6 (.slice p5 (n + 1) c5) (l ++ [m])) := by rw [hW6]; exact slE_set' (ownE_slE O5.out) HNE5.out
  have HF6 : Hid (∀ b, (Value.slice p5 (n + 1) c5).ownBlock = some b → w.heap.size + 3 ≤ b) := fun b hb => by have := (ownE_lt O5.out hb).1; have := HZ.out; omega
  have HW6 := Lib.hid hW6
  clear hW6 o5 g5 M5
  refine wpXT_quiet2 rfl rfl rfl hwB ?_
  (first | go_big_quiet_step (fail) | quiet_step (fail)); refine wpQuiet_nil ?_
  refine wpXT_store rfl rfl W6 (by rw [HW6.out]; go_simp) (relE_tail (by kernel_rfl) (by rw [HW6.out]; exact (Below.refl _ _).setCell (p := ⟨w1.heap.size, 0, none⟩) (by have := HZ4.out; show w.heap.size + 2 ≤ w1.heap.size; omega) _)) ?_
  simp only [Act.put]
  refine wpXT_nil ?_
  have f0 := ldA_block M6.out (tr_size _)
  have f1 := wrA_block N6.out (tr_size _)
  clear c0 c1' D5 Q0 Q1 Q2 Q3 Q4 Q5 hwB
  go_wp2_with fail
  exact bodyPost_ret (results_agg2 Try.isAgg24 Try.sizeOf24 _ 4 5 rfl _ _ _ _ _ rfl rfl (put_whole' N6.out (tr_size _) (tr_size _))) rfl ⟨⟨p5, n + 1, c5⟩, rfl, slE_stA' S6.out (fun e => by have := HF6.out _ e; omega), below_stA B6.out (by omega)⟩
/-- Insert. -/
theorem treeInsert (s : SlV) (l : List Nd) (x : Bk) (w : World) (h : SlE Ene w (sv s) l) (hn : l.length * 56 ≤ 140737488355328) :
    Calls Try.prog 12 #[.agg (tr ⟨s⟩), .agg (bk x)] w (TreeEr (insL l x.root x.parent x.slot x.just) (insE l x.root x.parent x.slot) w) := by
  have hl := sv_lenN h
  obtain ⟨p, n, cp⟩ := s
  dsimp only at hl
  unfold insL
  by_cases hy : insE l x.root x.parent x.slot = 0
  · rw [if_pos hy, hy]
    exact treeInsert_yes p n cp l x w h hl hy
  · rw [if_neg hy]
    exact treeInsert_no p n cp l x w h hl (by omega) hy
theorem enters_insert : ∀ args w, (callFunc 12 args).run Try.prog w = .ok (.enter 12 args) w := entersE Try.func12 (by kernel_rfl) (by kernel_rfl)
end Go.Proofs.Ytnehebipikhejaa
