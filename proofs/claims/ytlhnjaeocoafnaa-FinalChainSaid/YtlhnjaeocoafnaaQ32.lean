/-
  Package tree: line, and the function that it hands on: whatever loop ranges over it.
  Package tree: Above, walked: a loop over a node's line.
-/
import Derived.Test.YtlhnjaeocoafnaaQ31
namespace Go.Proofs.Ytlhnjaeocoafnaa
open Go.RowKit Go.Shelf
set_option maxRecDepth 100000

attribute [local go_sem] Oper.semAt_some

set_option maxRecDepth 100000 in
set_option maxHeartbeats 1000000 in
/-- line: the tree and the place are boxed; what is handed on captures both. -/
theorem treeLine (t : Tr) (i : Int) (w : World) :
    Calls Try.prog 62 #[.agg (tr t), .int .i64 i] w fun e w' => e = .returned (.func (.func 82) #[] #[.pointer (some ⟨w.heap.size + 1, 0, none⟩), .pointer (some ⟨w.heap.size, 0, none⟩)]) ∧ w' = (w.alloc (.cells (tr t) 24)).alloc (.cells #[.int .i64 i] 3) := by
  go_enter Try.func62, Try.ntmps62
  go_wp2_with fail
  go_ret
  exact ⟨rfl, rfl⟩

/-- The places on a node's line. -/
abbrev Ln (l : List Nd) (i : Nat) := { x : Nat // x ∈ lineT l i }
set_option maxRecDepth 100000 in
set_option maxHeartbeats 4000000 in
theorem line_stops (F : Fence) (d : Nat) (hf : F.fn 82) (hro : F.round = none) (hd : 1 ≤ d) (bi bt b1 o1 n cp n₀ : Nat) (l : List Nd) (i : Nat) (w : World) (hm : MayT l) (hl : l.length = n) (hi : i < n)
    (hbi : w.cell? ⟨bi, 0, none⟩ = some (.int .i64 (i : Int))) (hbt : w.heap[bt]? = some (.cells (tr ⟨⟨some ⟨b1, o1, none⟩, n, cp⟩⟩) 24 (0, 0))) (hx : w.rangeAt b1 o1 (cellsE Ene l))
    (h1 : bi < n₀) (h2 : bt < n₀) (h3 : b1 < n₀) (hn₀ : n₀ ≤ w.heap.size) :
    SeqStopsK F d Try.prog 82 #[.pointer (some ⟨bi, 0, none⟩), .pointer (some ⟨bt, 0, none⟩)] (fun x : Ln l i => #[Value.int .i64 (x.1 : Int)]) (Below n₀) (fun ys => ys.map Subtype.val = lineT l i) (fun pre => pre.map Subtype.val <+: lineT l i) (lineT l i).length w := by
  intro lo J Jx W hW _ _ hY hJ0
  have HL := Lib.hid hl
  have HM := Lib.hid hm
  have HI := Lib.hid hi
  have HY := Lib.hid hY
  have HJ0 := Lib.hid hJ0
  have g0 := hW.mono hn₀
  have HC : Hid (∀ W', Below n₀ W W' → W'.cell? ⟨bi, 0, none⟩ = some (.int .i64 (i : Int))) := fun W' g => ((g0.trans g).cell (p := ⟨bi, 0, none⟩) h1).trans hbi
  have HT : Hid (∀ W', Below n₀ W W' → W'.heap[bt]? = some (.cells (tr ⟨⟨some ⟨b1, o1, none⟩, n, cp⟩⟩) 24 (0, 0))) := fun W' g => ((g0.trans g).block _ h2).trans hbt
  have HR : Hid (∀ W', Below n₀ W W' → W'.rangeAt b1 o1 (cellsE Ene l)) := fun W' g j v hv => ((g0.trans g).cell (p := ⟨b1, o1 + j, none⟩) h3).trans (hx j v hv)
  have z00 := HC.out W (Below.refl _ _)
  clear hl hm hi hY hJ0 hbi hbt hx h1 h2 h3 hn₀ hW g0
  refine callsIn_of_wp Try.func82 rfl hf ?_ hro
  simp only [Try.ntmps82, List.size_toArray, List.length_cons, List.length_nil, Nat.reduceAdd, Nat.reduceSub, Array.replicate_succ, Array.replicate_zero, List.push_toArray, List.append_toArray, List.nil_append, List.cons_append]
  gi_wp2
  gi_loopw [4] (fun v wr => ∃ (pre : List (Ln l i)) (m : Nat), m ≤ n ∧ v = .int .i64 ((m : Int) - 1) ∧ lineT l i = pre.map Subtype.val ++ (if m = 0 then [] else lineT l (m - 1)) ∧ Below n₀ W wr ∧ J pre wr) (fun v _ => (intOf v + 1).toNat)
  case atStart => exact ⟨[], i + 1, HI.out, by rw [show ((i + 1 : Nat) : Int) - 1 = (i : Int) by omega], by rw [if_neg (Nat.succ_ne_zero _), Nat.add_sub_cancel, List.map_nil, List.nil_append], Below.refl _ _, HJ0.out⟩
  case round =>
    obtain ⟨pre, m, hmn, rfl, he, hg, hj⟩ := hrel
    have HE := Lib.hid he
    have HG := Lib.hid hg
    have HJ := Lib.hid hj
    have HMN := Lib.hid hmn
    clear he hg hj hmn
    by_cases h0 : m = 0
    · subst h0
      have HE' : Hid (pre.map Subtype.val = lineT l i) := by show _ = _; have := HE.out; rw [if_pos rfl, List.append_nil] at this; exact this.symm
      rw [show (((0 : Nat) : Int) - 1) = -1 from rfl]
      gi_wp2
      go_end0
      exact ⟨⟨_, rfl⟩, .inl ⟨pre, HE'.out, HJ.out⟩⟩
    · obtain ⟨k, rfl⟩ : ∃ k, m = k + 1 := ⟨m - 1, by omega⟩
      rw [show (((k + 1 : Nat) : Int) - 1) = (k : Int) by omega]
      have HE' : Hid (lineT l i = pre.map Subtype.val ++ lineT l k) := HE.out.trans (by rw [if_neg h0, Nat.add_sub_cancel])
      have HK : Hid (k < n) := HMN.out
      have HC' : Hid (lineT l k = k :: (if k = 0 then [] else lineT l (up l k))) := line_cons HM.out (by have := HL.out; have := HK.out; omega)
      have HIN : Hid (k ∈ lineT l i) := by show k ∈ lineT l i; rw [HE'.out, HC'.out]; simp
      have t0 : ((k : Int) != -1) = true := by simp
      have u1 : (k : Int) < (n : Int) := by have := HK.out; omega
      have u2 : (0 : Int) ≤ (k : Int) := by omega
      obtain ⟨fn, tmps, assign, body, hy, hR⟩ := HY.out pre ⟨k, HIN.out⟩ wr HJ.out (by rw [HE'.out, List.length_append, HC'.out]; simp)
      have HRR := Lib.hid hR
      clear h0 HE HMN hR
      gi_wp2
      refine HRR.out.mono ?_
      rintro e W3 (⟨rfl, hJ3, hk3⟩ | ⟨rfl, hJx3⟩)
      · have HG3 := Lib.hid (HG.out.trans hk3)
        have HJ3 := Lib.hid hJ3
        obtain ⟨z0, z1, zl⟩ := tr_cells (HT.out W3 HG3.out)
        dsimp only at z0
        rw [sv_mk] at z0
        have y1 := nds_par (HR.out W3 HG3.out) (i := k) (by have := HL.out; have := HK.out; omega)
        clear hJ3 hk3
        by_cases hk : k = 0
        · subst hk
          rw [HM.out.first, Nat.zero_mul, Nat.add_zero] at y1
          gi_wp2
          go_roundw
          case rel => exact ⟨pre ++ [⟨0, HIN.out⟩], 0, Nat.zero_le _, rfl, HE'.out.trans (by rw [HC'.out]; simp), HG3.out, HJ3.out⟩
          case measure => simp [intOf]
        · obtain ⟨hp, hu, _⟩ := HM.out.par (k := k) (by omega) (by have := HL.out; have := HK.out; omega)
          rw [hp] at y1
          have HU := Lib.hid hu
          have HK0 := Lib.hid hk
          clear hp hu hk
          gi_wp2
          go_roundw
          case rel => exact ⟨pre ++ [⟨k, HIN.out⟩], up l k + 1, by have := HU.out; have := HK.out; omega, by rw [show ((up l k + 1 : Nat) : Int) - 1 = (up l k : Int) by omega], HE'.out.trans (by rw [HC'.out, if_neg HK0.out, if_neg (Nat.succ_ne_zero _), Nat.add_sub_cancel, List.map_append, List.append_assoc]; rfl), HG3.out, HJ3.out⟩
          case measure => have := HU.out; simp [intOf]; omega
      · have HJ3 := Lib.hid hJx3
        clear hJx3
        gi_wp2
        refine bodyPost_ret (results_none rfl _ _ _) rfl ?_
        exact ⟨⟨_, rfl⟩, .inr ⟨pre ++ [⟨k, HIN.out⟩], ⟨if k = 0 then [] else lineT l (up l k), (HE'.out.trans (by rw [HC'.out, List.map_append, List.append_assoc]; rfl)).symm⟩, HJ3.out⟩⟩
end Go.Proofs.Ytlhnjaeocoafnaa
namespace Go.Proofs.Ytlhnjaeocoafnaa
open Go.RowKit Go.Shelf
set_option maxRecDepth 100000

attribute [local go_sem] Oper.semAt_some

set_option maxRecDepth 100000 in
set_option maxHeartbeats 4000000 in
theorem treeAbove_no (s : SlV) (l : List Nd) (i k : Int) (w : World) (h : SlE Ene w (sv s) l) (hk : isT l k = false) :
    Calls Try.prog 29 #[.agg (tr ⟨s⟩), .int .i64 i, .int .i64 k] w fun e w' => e = .returned (.bool false) ∧ Below w.heap.size w w' := by
  have HP := Lib.hid (fun W (g : Below w.heap.size w W) => treePlace s l k W (slE_keep g h))
  rw [hk] at HP
  obtain ⟨W0, hW0⟩ : ∃ W0, W0 = ((w.alloc (.cells (tr ⟨s⟩) 24)).alloc (.cells #[.int .i64 i] 3)).alloc (.cells #[.bool false] 4) := ⟨_, rfl⟩
  obtain ⟨hB, h0, h1, h2, hz⟩ := heap3 w _ _ _ _ _ _ W0 hW0
  have HB := Lib.hid hB
  have H2 := Lib.hid h2
  have HW := Lib.hid hW0
  clear hW0 h hk hB h0 h1 h2 hz
  go_enter Try.func29, Try.ntmps29
  go_wp2_with fail
  rw [← HW.out]
  refine (HP.out W0 HB.out).mono ?_
  rintro e w1 ⟨rfl, g1⟩
  have G1 := Lib.hid (belowT HB.out g1)
  have hc : w1.cell? ⟨w.heap.size + 1 + 1, 0, none⟩ = some (.bool false) ∧ w1.frozen? ⟨w.heap.size + 1 + 1, 0, none⟩ = false := cell_of_box (blk_keep g1 H2.out)
  obtain ⟨z0, z1⟩ := hc
  clear g1
  go_wp2_with fail
  have hs := World.cell?_setCell_same' w1 ⟨w.heap.size + 1 + 1, 0, none⟩ (.bool false) (by rw [z0]; rfl)
  exact bodyPost_ret (v := .bool false) (by simp [results, Try.results29, go_sem, hs]) rfl ⟨rfl, G1.out.setCell (p := ⟨w.heap.size + 1 + 1, 0, none⟩) (by simp; omega) _⟩

set_option maxRecDepth 100000 in
set_option maxHeartbeats 4000000 in
theorem treeAbove_yes (s : SlV) (l : List Nd) (i : Int) (k : Nat) (w : World) (h : SlE Ene w (sv s) l) (hm : MayT l) (hk : k < l.length) :
    Calls Try.prog 29 #[.agg (tr ⟨s⟩), .int .i64 i, .int .i64 (k : Int)] w fun e w' => e = .returned (.bool (decide (0 ≤ i) && aboveT l i.toNat k)) ∧ Below w.heap.size w w' := by
  have HP := Lib.hid (fun W (g : Below w.heap.size w W) => treePlace s l k W (slE_keep g h))
  rw [isT_nat hm hk] at HP
  have HL := Lib.hid (sv_lenN h)
  obtain ⟨p, n, cp⟩ := s
  dsimp only at HL
  obtain ⟨b1, o1, rfl, q1, x1⟩ := slE_ptr h hm.pos
  obtain ⟨W0, hW0⟩ : ∃ W0, W0 = ((w.alloc (.cells (tr ⟨⟨some ⟨b1, o1, none⟩, n, cp⟩⟩) 24)).alloc (.cells #[.int .i64 i] 3)).alloc (.cells #[.bool false] 4) := ⟨_, rfl⟩
  obtain ⟨hB, h0, h1, h2, hz⟩ := heap3 w _ _ _ _ _ _ W0 hW0
  have HB := Lib.hid hB
  have H0 := Lib.hid h0
  have H1 := Lib.hid h1
  have H2 := Lib.hid h2
  have HZ := Lib.hid hz
  have HW := Lib.hid hW0
  have HX := Lib.hid x1
  have HQ := Lib.hid q1
  have HM := Lib.hid hm
  have HK := Lib.hid hk
  obtain ⟨r, hr⟩ : ∃ r, r = (decide (0 ≤ i) && aboveT l i.toNat k) := ⟨_, rfl⟩
  rw [← hr]
  have HR := Lib.hid hr
  clear hW0 h hk hB h0 h1 h2 hz hm x1 q1 hr
  refine callsIn_wide.1 (callsIn_of_wp_marks (n := 3) Try.func29 rfl trivial (wpIn_wide.2 ?_))
  simp only [Try.ntmps29, List.size_toArray, List.length_cons, List.length_nil, Nat.reduceAdd, Nat.reduceSub, Array.replicate_succ, Array.replicate_zero, List.push_toArray, List.append_toArray, List.nil_append, List.cons_append]
  go_wp2_with fail
  rw [← HW.out]
  refine (HP.out W0 HB.out).mono ?_
  rintro e w1 ⟨rfl, g1⟩
  have G1 := Lib.hid (belowT HB.out g1)
  have G01 := Lib.hid g1
  have z1 := ldA_block (blk_keep g1 H0.out) (tr_size _)
  clear g1
  go_wp2_with fail
  refine (treeLine _ _ _).mono ?_
  rintro e w2 ⟨rfl, hw2⟩
  obtain ⟨hB2, hT2, hC2, hz2⟩ := heap2 w1 _ _ _ _ w2 hw2
  have HB2 := Lib.hid hB2
  have HT2 := Lib.hid hT2
  have HC2 := Lib.hid hC2
  have HZ2 := Lib.hid hz2
  clear hw2 hB2 hT2 hC2 hz2 z1
  go_wp2_with fail
  refine (wpIn_wide (n := 3)).1 ?_
  have hs1 : w.heap.size + 3 ≤ w1.heap.size := by have := G01.out.size; have := HZ.out; omega
  have HS1 := Lib.hid hs1
  clear hs1
  refine wpIn_rangeFunc_ownF (w0 := w2) rfl (by omega) (gf := 82) (lb := #[.pointer (some ⟨w1.heap.size + 1, 0, none⟩), .pointer (some ⟨w1.heap.size, 0, none⟩)]) rfl trivial (entersE Try.func82 (by kernel_rfl) (by kernel_rfl))
    (line_stops Fence.wide 2 trivial rfl (by omega) (w1.heap.size + 1) w1.heap.size b1 o1 n cp w2.heap.size l k w2 HM.out HL.out (by have := HL.out; have := HK.out; omega)
      (cell_of_box HC2.out).1 HT2.out (keepR (belowT G1.out HB2.out) HX.out) (by have := HZ2.out; omega) (by have := HZ2.out; omega) (by have := HQ.out; have := HS1.out; have := HZ2.out; omega) (Nat.le_refl _))
    belowK_t (belowK_b (Nat.le_refl _)) (Below.refl _ _) (fun _ => rfl)
    (fun pre W => (∀ y ∈ pre, ((y.1 : Nat) : Int) ≠ i) ∧ Below w2.heap.size w2 W)
    (fun c pre W => (((c = .ret ∧ ∃ y ∈ pre, ((y.1 : Nat) : Int) = i) ∧ W.cell? ⟨w.heap.size + 1 + 1, 0, none⟩ = some (.bool true)) ∧ Below w.heap.size w W))
    (own_go _ (Nat.le_refl _)) (fun c => own_left (w := w) (B := w2.heap.size) (fun pre : List (Ln l k) => c = .ret ∧ ∃ y ∈ pre, ((y.1 : Nat) : Int) = i) _ (fun _ => .bool true) (by have := HZ2.out; have := HS1.out; omega))
    ⟨fun _ h => absurd h List.not_mem_nil, Below.refl _ _⟩ ?a1 ?assign ?body ?done ?stop
  case assign =>
    intro lo x W K hK
    gi_wp2
    exact hK
  case body =>
    rintro lo pre x W ⟨hp, hB⟩ hlen
    have HP := Lib.hid hp
    have HBW := Lib.hid hB
    have c1 := (cell_of_box (blk_keep (belowT G01.out (belowT HB2.out hB)) H1.out)).1
    obtain ⟨c2, c3⟩ := cell_of_box (blk_keep (belowT G01.out (belowT HB2.out hB)) H2.out)
    have HC2' : Hid (W.cell? ⟨w.heap.size + 1 + 1, 0, none⟩ = some (.bool false) ∧ W.frozen? ⟨w.heap.size + 1 + 1, 0, none⟩ = false) := ⟨c2, c3⟩
    have HBw : Hid (Below w.heap.size w W) := belowT G1.out (belowT HB2.out hB)
    clear hp hB c2 c3 hlen
    obtain ⟨c2, c3⟩ := HC2'.out
    by_cases he : ((x.1 : Nat) : Int) = i
    · have t1 : (((x.1 : Nat) : Int) == i) = true := by simpa using he
      have HE := Lib.hid he
      clear he
      gi_wp2
      exact ⟨KeepsOthers.setCell _ _ _, ⟨⟨rfl, x, by simp, HE.out⟩, World.cell?_setCell_same' _ _ _ (by rw [HC2'.out.1]; rfl)⟩, HBw.out.setCell (p := ⟨w.heap.size + 1 + 1, 0, none⟩) (by simp; omega) _⟩
    · have t1 : (((x.1 : Nat) : Int) == i) = false := by simpa using he
      have HE := Lib.hid he
      clear he
      gi_wp2
      exact ⟨KeepsOthers.refl _, Below.refl _ _, fun y hy => by
        rcases List.mem_append.1 hy with h | h
        · exact HP.out y h
        · rw [List.mem_singleton] at h; subst h; exact HE.out, HBW.out⟩
  case done =>
    rintro D ys W hD hys ⟨hp, hB⟩ hK
    have hX : r = false := by
      rw [HR.out, Bool.and_eq_false_iff, ← Bool.not_eq_true]
      by_cases h0 : 0 ≤ i
      · right
        rw [← Bool.not_eq_true]
        intro ha
        have hin := (line_mem HM.out i.toNat k HK.out).2 ha
        rw [← hys] at hin
        obtain ⟨y, hy, e⟩ := List.mem_map.1 hin
        exact hp y hy (by omega)
      · left; simpa using h0
    have HX' := Lib.hid hX
    have HKD := Lib.hid hK
    have HBW := Lib.hid hB
    have hc : W.cell? ⟨w.heap.size + 1 + 1, 0, none⟩ = some (.bool false) ∧ W.frozen? ⟨w.heap.size + 1 + 1, 0, none⟩ = false := cell_of_box (blk_keep (belowT G01.out (belowT HB2.out hB)) H2.out)
    have HC := Lib.hid hc
    obtain ⟨c2, c3⟩ := hc
    have HBw : Hid (Below w.heap.size w W) := belowT G1.out (belowT HB2.out hB)
    clear hX hp hB hK hys
    go_wp2_with fail
    have hK' := (KeepsOthers.setCell W ⟨w.heap.size + 1 + 1, 0, none⟩ (.bool false)).same D _ HKD.out rfl
    have hs := cell_shut hK' (World.cell?_setCell_same' W ⟨w.heap.size + 1 + 1, 0, none⟩ (.bool false) (by rw [HC.out.1]; rfl))
    exact leave_M (v := .bool false) hK' ⟨by simp [results, Try.results29, go_sem, hs], by rw [HX'.out], below_shut hK' (HBw.out.setCell (p := ⟨w.heap.size + 1 + 1, 0, none⟩) (by simp; omega) _) (by have := HZ2.out; have := HS1.out; omega)⟩
  case stop =>
    rintro D c pre W hD hpre ⟨⟨⟨rfl, y, hy, he⟩, hc⟩, hB⟩ hK
    have hX : r = true := by
      rw [HR.out, Bool.and_eq_true, decide_eq_true_iff]
      refine ⟨by omega, (line_mem HM.out i.toNat k HK.out).1 ?_⟩
      rw [show i.toNat = y.1 by omega]
      exact hpre.subset (List.mem_map_of_mem hy)
    have HX' := Lib.hid hX
    have HBW := Lib.hid hB
    have HKD := Lib.hid hK
    have hs := cell_shut hK hc
    have HD := Lib.hid hD
    clear hX hB hy he hpre
    gi_wp2
    exact leave_M (v := .bool true) HKD.out ⟨by simp [results, Try.results29, go_sem, hs], by rw [HX'.out], below_shut HKD.out HBW.out (by have := HZ2.out; have := HS1.out; have := HD.out; omega)⟩
/-- Above. -/
theorem treeAbove (s : SlV) (l : List Nd) (i k : Int) (w : World) (h : SlE Ene w (sv s) l) :
    Calls Try.prog 29 #[.agg (tr ⟨s⟩), .int .i64 i, .int .i64 k] w fun e w' => e = .returned (.bool (aboveZ l i k)) ∧ Below w.heap.size w w' := by
  by_cases hk : isT l k = true
  · obtain ⟨hm, hk0, hk1⟩ := isT_iff.1 hk
    obtain ⟨k', rfl⟩ : ∃ k' : Nat, k = k' := ⟨k.toNat, by omega⟩
    have e : aboveZ l i (k' : Int) = (decide (0 ≤ i) && aboveT l i.toNat k') := by
      unfold aboveZ
      rw [hk, Int.toNat_natCast, Bool.and_true]
      by_cases h0 : 0 ≤ i
      · rw [decide_eq_true h0, Bool.true_and]
        by_cases ha : aboveT l i.toNat k' = true
        · have := above_le hm i.toNat k' (by omega) ha
          rw [ha, Bool.and_true]
          exact isT_iff.2 ⟨hm, h0, by omega⟩
        · rw [Bool.not_eq_true] at ha
          rw [ha, Bool.and_false]
      · have : isT l i = false := by
          rw [← Bool.not_eq_true, isT_iff]
          exact fun hh => h0 hh.2.1
        rw [this, decide_eq_false h0]
    rw [e]
    exact treeAbove_yes s l i k' w h hm (by omega)
  · have hk' : isT l k = false := by simpa using hk
    have e : aboveZ l i k = false := by unfold aboveZ; rw [hk', Bool.and_false, Bool.false_and]
    rw [e]
    exact treeAbove_no s l i k w h hk'
theorem enters_above06 : ∀ args w, (callFunc 29 args).run Try.prog w = .ok (.enter 29 args) w := entersE Try.func29 (by kernel_rfl) (by kernel_rfl)
end Go.Proofs.Ytlhnjaeocoafnaa
