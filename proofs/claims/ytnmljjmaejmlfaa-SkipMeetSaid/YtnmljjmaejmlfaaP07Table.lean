/-
  Package skip: Table, walked.
-/
import Derived.Test.YtnmljjmaejmlfaaP07Row
import Derived.Test.YtnmljjmaejmlfaaP06May
import Derived.OwnWalk
namespace Go.Proofs.Ytnmljjmaejmlfaa
open Go.RowKit

/-- A table is answered. -/
def TabIs (l : List Nd) (w : World) (e : Ending) (w' : World) : Prop := ∃ v : Value, e = .returned v ∧ OwnE Eqd w' w.heap.size v (tabT l) ∧ Below w.heap.size w w'

set_option maxRecDepth 100000 in
set_option maxHeartbeats 4000000 in
theorem skipTable (s : SlV) (l : List Nd) (w : World) (h : SlE Ene w (sv s) l) :
    Calls Try.prog 11 #[.agg (tr ⟨s⟩)] w (TabIs l w) := by
  obtain ⟨i, hi, hz0, hz1, hz2⟩ := info_parts info_qd
  have HM := Lib.hid (fun W (g : Below w.heap.size w W) => treeMay s l W (slE_keep g h))
  have HL := Lib.hid (sv_lenN h)
  obtain ⟨p, n, cp⟩ := s
  dsimp only at HL
  obtain ⟨a, ha⟩ : ∃ a, a = decide (MayT l) := ⟨_, rfl⟩
  rw [← ha] at HM
  obtain ⟨W0, hW0⟩ : ∃ W0, W0 = w.alloc (.cells (tr ⟨⟨p, n, cp⟩⟩) 24) := ⟨_, rfl⟩
  have HB : Hid (Below w.heap.size w W0) := by rw [hW0]; exact below1
  have M0 : Hid (W0.heap[w.heap.size]? = some (.cells (tr ⟨⟨p, n, cp⟩⟩) 24 (0, 0))) := by rw [hW0]; exact heap_alloc_last w _
  have HS := Lib.hid h
  have HW := Lib.hid hW0
  have HA := Lib.hid ha
  clear hW0 h ha
  cases a
  · have HE : Hid (tabT l = []) := by show tabT l = []; unfold tabT; rw [if_neg (of_decide_eq_false HA.out.symm)]
    clear hi hz0 hz1 hz2 i
    go_enter Try.func11, Try.ntmps11
    go_wp2_with fail
    rw [← HW.out]
    refine (HM.out W0 HB.out).mono ?_
    rintro e w1 ⟨rfl, g1⟩
    have G1 := Lib.hid (belowT HB.out g1)
    clear g1
    go_wp2_with fail
    go_ret
    exact ⟨_, rfl, by rw [HE.out]; exact ownE_nil _ _ _, G1.out⟩
  · have hm : MayT l := of_decide_eq_true HA.out.symm
    have HE : Hid (tabT l = tabUp l n) := by show tabT l = tabUp l n; unfold tabT; rw [if_pos hm, HL.out]
    have HN : Hid (n ≤ 12) := by show n ≤ 12; have := hm.le; have := HL.out; omega
    have HMm := Lib.hid hm
    obtain ⟨b1, o1, rfl, q1, x1⟩ := slE_ptr HS.out hm.pos
    clear HA hm
    go_enter Try.func11, Try.ntmps11
    go_wp2_with fail
    rw [← HW.out]
    refine (HM.out W0 HB.out).mono ?_
    rintro e w1 ⟨rfl, g1⟩
    have G1 := Lib.hid (belowT HB.out g1)
    have M1 := Lib.hid (blk_keep g1 M0.out)
    have X1 := Lib.hid (keepR G1.out x1)
    obtain ⟨z0, z1, zl⟩ := tr_cells M1.out
    dsimp only at z0
    rw [sv_mk] at z0
    have HC : Hid (∀ W, Below w1.heap.size w1 W → W.cell? ⟨w.heap.size, 0, none⟩ = some (.slice (some ⟨b1, o1, none⟩) n cp)) := fun W g => by
      have := (tr_cells (blk_keep g M1.out)).1
      dsimp only at this
      rwa [sv_mk] at this
    clear g1 x1 q1
    go_wp2_with (at_make; refine wpList_make_own _ rfl _ _ 28 rfl w1.heap.size 42 i _ 4 Try.underlying28 hi hz0 hz1 .i64 .i64 _ n rfl rfl rfl (by rw [hz2]; have := HN.out; omega) (by have := HN.out; unfold maxLen; omega) (Nat.le_refl _) ?_; intro w2 hown2 hgrow2; have zz := HC.out w2 ((Below.refl _ _).grown hgrow2 (Nat.le_refl _) (fun k hk => by cases hk)))
    clear hi hz0 hz1 hz2 i z0 z1 zl
    have hg2 : Below w1.heap.size w1 w2 := (Below.refl _ _).grown hgrow2 (Nat.le_refl _) (fun k hk => by cases hk)
    have G2 := Lib.hid hg2
    have HO2 : Hid (OwnE Eqd w2 w1.heap.size (.slice (some ⟨w1.heap.size, 0, none⟩) 0 n) []) := hown2
    have M2 := Lib.hid (blk_keep hg2 M1.out)
    clear hg2 hown2 hgrow2
    go_loopw [3, 15] (fun v i wr => ∃ j : Nat, j ≤ n ∧ i = .int .i64 (j : Int) ∧ OwnE Eqd wr w1.heap.size v (tabUp l j) ∧ Below w1.heap.size w1 wr) (fun _ i _ => n - (intOf i).toNat)
    case atStart => exact ⟨0, Nat.zero_le _, rfl, HO2.out, G2.out⟩
    case round =>
      obtain ⟨j, hj, rfl, hown, hb⟩ := hrel
      have HO := Lib.hid hown
      have HBB := Lib.hid hb
      clear zz
      obtain ⟨z0, z1, zl⟩ := tr_cells (blk_keep hb M1.out)
      dsimp only at z0
      rw [sv_mk] at z0
      obtain ⟨pv, cv, rfl⟩ := ownE_len hown (tabUp_len l j)
      clear hown hb
      by_cases hlt : j < n
      · have i0 : (0 : Int) ≤ (j : Int) := by omega
        have i1 : (j : Int) < (n : Int) := by omega
        have u1 : (j : Int) + 1 < 10000 := by have := HN.out; omega
        have y1 := nds_par (keepR HBB.out X1.out) (i := j) (by have := HL.out; omega)
        have HR := Lib.hid (fun W (g : Below wr.heap.size wr W) => skipRow pv j cv l W (slE_keep g (ownE_slE HO.out)) HMm.out (by have := HL.out; omega))
        have HT := Lib.hid (tabUp_succ l j)
        have HLn := Lib.hid (tabUp_len l j)
        have HLT := Lib.hid hlt
        clear hlt
        go_wp2_with fail
        refine (HR.out wr (Below.refl _ _)).mono ?_
        rintro e w3 ⟨rfl, g3⟩
        have G3 := Lib.hid g3
        have O3 := Lib.hid (ownE_keep g3 HO.out)
        clear g3 z0 z1 zl y1
        go_wp2_with (at_builtin; refine wpList_append_E Kqd _ rfl (.tmp 18) (.tmp 27) rfl w1.heap.size _ (tabUp l j) rfl (ownE_alloc O3.out _) _ [quadT l j] rfl (slE_lit _ [quadT l j] 1 _ _ _ rfl (by simp) (by simp [cellsE, Eqd, qd_list])) (by have := HLn.out; have := HN.out; simp; omega) (by have := HBB.out.size; have := G3.out.size; simp; omega) ?_; intro v2 w4 ho4 hg4)
        go_roundw
        case rel => exact ⟨j + 1, HLT.out, by go_num, by rw [HT.out]; exact ho4, (belowT HBB.out (belowT G3.out below1)).trans (hg4.own (ownE_alloc O3.out _) (by have := HBB.out.size; have := G3.out.size; simp; omega))⟩
        case measure => simp [intOf]; have := HLT.out; omega
      · obtain rfl : j = n := by omega
        clear hlt
        go_wp2_with fail
        go_ret
        exact ⟨_, rfl, by rw [HE.out]; exact ownE_base HO.out G1.out.size, belowT G1.out HBB.out⟩
theorem enters_skipTable : ∀ args w, (callFunc 11 args).run Try.prog w = .ok (.enter 11 args) w := entersE Try.func11 (by kernel_rfl) (by kernel_rfl)
end Go.Proofs.Ytnmljjmaejmlfaa
