/-
  Package view: what leaves hands on, leaves, Leaf, walked.
-/
import Derived.Test.YtanoijcgkacnmaaP10Places
import Derived.Test.YtanoijcgkacnmaaGQ
namespace Go.Proofs.Ytanoijcgkacnmaa
open Go.RowKit

theorem kidsI_none {l : List Nd} {i : Int} : decide (kidsZ l i = []) = ((kidsI l i).length == 0) := by
  rw [Bool.eq_iff_iff, decide_eq_true_iff, beq_iff_eq]
  unfold kidsI
  rw [List.length_map, List.length_eq_zero_iff]

set_option maxRecDepth 100000 in
set_option maxHeartbeats 4000000 in
theorem viewIsLeaf (bj bt bf : Nat) (s : SlV) (l : List Nd) (j : Nat) (f : Int) (k : Nat) (w : World) (h : SlE Ene w (sv s) l)
    (M0 : w.heap[bt]? = some (.cells (tr ⟨s⟩) 24 (0, 0))) (M1 : w.heap[bj]? = some (.cells #[.int .u64 (j : Int)] 25 (0, 0))) (M2 : w.heap[bf]? = some (.cells #[.int .i64 f] 3 (0, 0))) :
    Calls Try.prog 32 #[.int .i64 (k : Int), .agg (ne (nd l k)), .pointer (some ⟨bj, 0, none⟩), .pointer (some ⟨bt, 0, none⟩), .pointer (some ⟨bf, 0, none⟩)] w fun e w' => e = .returned (.bool (leafT l j f (k : Int))) ∧ Below w.heap.size w w' := by
  have HA := Lib.hid (fun W (g : Below w.heap.size w W) => treeAbove s l f (k : Int) W (slE_keep g h))
  have HK := Lib.hid (fun W (g : Below w.heap.size w W) => treeKids s l (k : Int) W (slE_keep g h))
  obtain ⟨res, hres⟩ : ∃ res, res = leafT l j f (k : Int) := ⟨_, rfl⟩
  rw [← hres]
  unfold leafT at hres
  rw [kidsI_none, show nd l ((k : Int)).toNat = nd l k from rfl] at hres
  obtain ⟨x, hx⟩ : ∃ x, x = nd l k := ⟨_, rfl⟩
  rw [← hx] at hres
  rw [← hx]
  obtain ⟨a, ha⟩ : ∃ a, a = aboveZ l f (k : Int) := ⟨_, rfl⟩
  rw [← ha] at hres HA
  obtain ⟨L, hL⟩ : ∃ L, L = kidsI l (k : Int) := ⟨_, rfl⟩
  rw [← hL] at hres HK
  obtain ⟨m, hm⟩ : ∃ m, m = L.length := ⟨_, rfl⟩
  rw [← hm] at hres
  have HM := Lib.hid hm.symm
  obtain ⟨q, hq⟩ : ∃ q, q = x.just.toNat := ⟨_, rfl⟩
  rw [← hq] at hres
  obtain ⟨r, hr⟩ : ∃ r, r = decide (j ≤ q) := ⟨_, rfl⟩
  rw [← hr] at hres
  have t1 : decide ((j : Int) ≤ (q : Int)) = r := by rw [hr, Bool.eq_iff_iff, decide_eq_true_iff, decide_eq_true_iff]; omega
  have t2 : decide (j ≤ q) = r := hr.symm
  have HR := Lib.hid hres
  obtain ⟨W0, hW0⟩ : ∃ W0, W0 = w.alloc (.cells (ne x) 43) := ⟨_, rfl⟩
  have HB : Hid (Below w.heap.size w W0) := by rw [hW0]; exact below1
  have y1 : W0.cell? ⟨w.heap.size, 34, none⟩ = some (.int .u64 ((x.just.toNat : Nat) : Int)) := by
    rw [hW0]; exact ne_rd0_just (heap_alloc_last w _)
  rw [← hq] at y1
  have N0 := Lib.hid (blk_keep HB.out M0)
  have y2 := (cell_of_box (blk_keep HB.out M1)).1
  have y3 := (cell_of_box (blk_keep HB.out M2)).1
  have z1 := ldA_block N0.out (tr_size _)
  have HW := Lib.hid hW0
  rw [hW0] at y1 y2 y3 z1
  clear h hres hx ha hL hm hq hr hW0 M0 M1 M2
  cases r
  · have hX : Hid (res = false) := by show _ = _; rw [HR.out, Bool.and_false, Bool.and_false]
    go_enter Try.func32, Try.ntmps32
    go_wp2_with fail
    rw [← HW.out]
    go_ret
    exact ⟨by rw [hX.out]; first | done | rfl, HB.out⟩
  · go_enter Try.func32, Try.ntmps32
    go_wp2_with fail
    rw [← HW.out]
    refine (HA.out W0 HB.out).mono ?_
    rintro e w1 ⟨rfl, g1⟩
    have G1 := Lib.hid (belowT HB.out g1)
    have N1 := Lib.hid (blk_keep g1 N0.out)
    replace z1 := ldA_block N1.out (tr_size _)
    clear g1 y1 y2 y3
    cases a
    · have hX : Hid (res = false) := by show _ = _; rw [HR.out, Bool.false_and]
      go_wp2_with fail
      go_ret
      exact ⟨by rw [hX.out]; first | done | rfl, G1.out⟩
    · go_wp2_with fail
      refine (HK.out w1 G1.out).mono ?_
      rintro e w2 ⟨v, rfl, hv, g2⟩
      have G2 := Lib.hid (belowT G1.out g2)
      obtain ⟨pv, cv, rfl⟩ := ownE_len hv HM.out
      obtain ⟨b, hb⟩ : ∃ b, b = (m == 0) := ⟨_, rfl⟩
      have t3 : ((m : Int) == 0) = b := by rw [hb, Bool.eq_iff_iff, beq_iff_eq, beq_iff_eq]; omega
      have t4 : (m == 0) = b := hb.symm
      have hX : Hid (res = b) := by show _ = _; rw [HR.out, ← hb, Bool.true_and, Bool.and_comm]; rfl
      clear hv g2 hb z1 t1 t2
      go_wp2_with fail
      go_ret
      exact ⟨by rw [hX.out]; first | done | rfl, G2.out⟩
theorem enters_isLeaf : ∀ args w, (callFunc 32 args).run Try.prog w = .ok (.enter 32 args) w := entersE Try.func32 (by kernel_rfl) (by kernel_rfl)

/-- The places that may be a head. -/
def leafI (l : List Nd) (just : Nat) (fin : Int) : List Int := selI (fun k => leafT l just fin (k : Int)) l.length
set_option maxRecDepth 100000 in
set_option maxHeartbeats 4000000 in
theorem viewLeaves (s : SlV) (l : List Nd) (j : Nat) (f : Int) (w : World) (hn : l.length ≤ 1000) (h : SlE Ene w (sv s) l) :
    Calls Try.prog 21 #[.agg (tr ⟨s⟩), .int .u64 (j : Int), .int .i64 f] w (IntsIs (leafI l j f) w) := by
  obtain ⟨W0, hW0⟩ : ∃ W0, W0 = ((w.alloc (.cells (tr ⟨s⟩) 24)).alloc (.cells #[.int .u64 (j : Int)] 25)).alloc (.cells #[.int .i64 f] 3) := ⟨_, rfl⟩
  obtain ⟨hB, h0, h1, h2, hz⟩ := heap3 w _ _ _ _ _ _ W0 hW0
  have hl := sv_lenN h
  have HC := Lib.hid (viewPlaces 32 #[.pointer (some ⟨w.heap.size + 1, 0, none⟩), .pointer (some ⟨w.heap.size, 0, none⟩), .pointer (some ⟨w.heap.size + 1 + 1, 0, none⟩)] enters_isLeaf (fun k => leafT l j f (k : Int)) s.p s.len s.cap l W0 (slE_keep hB h) hl (by omega)
    (fun k W _ g => viewIsLeaf (w.heap.size + 1) w.heap.size (w.heap.size + 1 + 1) s l j f k W (slE_keep (belowT hB g) h) (blk_keep g h0) (blk_keep g h1) (blk_keep g h2)))
  have HL := Lib.hid hl
  obtain ⟨p, n, cp⟩ := s
  dsimp only at HC HL
  have HI : Hid (leafI l j f = selI (fun k => leafT l j f (k : Int)) n) := by show _ = _; unfold leafI; rw [HL.out]
  rw [HI.out]
  obtain ⟨L, hL⟩ : ∃ L, L = selI (fun k => leafT l j f (k : Int)) n := ⟨_, rfl⟩
  rw [← hL]
  rw [← hL] at HC
  have HB := Lib.hid hB
  have HW := Lib.hid hW0
  rw [hW0] at h0
  obtain ⟨z0, z1, zl⟩ := tr_cells h0
  dsimp only at z0
  rw [sv_mk] at z0
  clear hW0 hB h0 h1 h2 hz h hl hn hL HI
  go_enter Try.func21, Try.ntmps21
  go_wp2_with fail
  rw [← HW.out]
  refine HC.out.mono ?_
  rintro e w1 ⟨v, rfl, hv, g1⟩
  have G1 := Lib.hid (belowT HB.out g1)
  have HO := Lib.hid (ownE_base hv HB.out.size)
  clear hv g1 z0 z1 zl
  go_wp2_with fail
  go_ret
  exact ⟨_, rfl, HO.out, G1.out⟩
theorem enters_viewLeaves : ∀ args w, (callFunc 21 args).run Try.prog w = .ok (.enter 21 args) w := entersE Try.func21 (by kernel_rfl) (by kernel_rfl)
theorem leafI_mem {l : List Nd} {j : Nat} {f i : Int} : decide (i ∈ leafI l j f) = leafT l j f i := by
  rw [Bool.eq_iff_iff, decide_eq_true_iff]
  unfold leafI
  rw [mem_selI]
  constructor
  · rintro ⟨k, _, h, rfl⟩
    exact h
  · intro h
    have ha : aboveZ l f i = true := by
      unfold leafT at h
      rw [Bool.and_eq_true] at h
      exact h.1
    obtain ⟨_, _, _, h3, h4, _⟩ := aboveZ_is ha
    have e : ((i.toNat : Nat) : Int) = i := by omega
    exact ⟨i.toNat, by omega, by rw [e]; exact h, e.symm⟩
theorem leafI_len (l : List Nd) (j : Nat) (f : Int) : (leafI l j f).length ≤ l.length := selI_len _ _

set_option maxRecDepth 100000 in
set_option maxHeartbeats 4000000 in
theorem leafC : LeafC := by
  intro s l j f i w bj hn h
  obtain ⟨W0, hW0⟩ : ∃ W0, W0 = w.alloc (.cells (tr ⟨s⟩) 24) := ⟨_, rfl⟩
  have HB : Hid (Below w.heap.size w W0) := by rw [hW0]; exact below1
  have z1 : ldA W0 (.pointer (some ⟨w.heap.size, 0, none⟩)) 1 = some (tr ⟨s⟩) := by rw [hW0]; exact ldA_block (heap_alloc_last w _) (tr_size _)
  have HL := Lib.hid (viewLeaves s l j f W0 hn (slE_keep HB.out h))
  have HN : Hid ((leafI l j f).length ≤ 1000) := Nat.le_trans (leafI_len l j f) hn
  have HC := Lib.hid (fun v W (g : SlE Eint W v (leafI l j f)) => containsInt v (leafI l j f) i W g HN.out)
  rw [leafI_mem] at HC
  have HW := Lib.hid hW0
  rw [hW0] at z1
  generalize leafT l j f i = res at *
  generalize leafI l j f = L at *
  clear hW0 h hn bj
  go_enter Try.func14, Try.ntmps14
  go_wp2_with fail
  rw [← HW.out]
  refine HL.out.mono ?_
  rintro e w1 ⟨v, rfl, hv, g1⟩
  have G1 := Lib.hid (belowT HB.out g1)
  have HV := Lib.hid (ownE_slE hv)
  clear hv g1 z1
  go_wp2_with fail
  refine (HC.out v w1 HV.out).mono ?_
  rintro e w2 ⟨rfl, g2⟩
  have G2 := Lib.hid (belowT G1.out g2)
  clear g2
  go_wp2_with fail
  go_ret
  exact ⟨rfl, G2.out⟩
end Go.Proofs.Ytanoijcgkacnmaa
