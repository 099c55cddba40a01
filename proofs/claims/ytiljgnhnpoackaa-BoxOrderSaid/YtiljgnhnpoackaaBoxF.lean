/-
  Package box: post, walked.
-/
import Derived.Test.YtiljgnhnpoackaaBoxE
namespace Go.Proofs.Ytiljgnhnpoackaa
open Go.RowKit

theorem below_set {B : Nat} {a w : World} {b o : Nat} {v : Value} (h : Below B a w) (hb : B ≤ b) : Below B a (w.setCell ⟨b, o, none⟩ v) := h.setCell hb v
/-- A result's block, written whole. -/
theorem put_whole {w : World} {b n : Nat} {c c' : Array Value} {t : TypeId} (hg : w.heap[b]? = some (.cells c t (0, 0))) (hn : c.size = n) (hn' : c'.size = n) : ldA (stA w (.pointer (some ⟨b, 0, none⟩)) (.agg c')) (.pointer (some ⟨b, 0, none⟩)) n = some c' := ldA_stA_same (wrA_block hg hn) hn'

set_option maxRecDepth 100000 in
set_option maxHeartbeats 1000000 in
theorem post_shut (cap : Int) (s : SlV) (lag : Bool) (x : Nt) (l : List Nt) (base : Nat) (w : World) (h : SlE Ent w (sv s) l) (hf : ∀ b, (sv s).ownBlock = some b → base ≤ b) (hb : base ≤ w.heap.size) :
    Calls Try.prog 24 #[.agg (ml ⟨⟨cap, s, lag, true⟩, x⟩)] w (MailIs ⟨cap, l, lag, true⟩ x false base w) := by
  have HS := Lib.hid h
  have HF := Lib.hid hf
  have HB0 := Lib.hid hb
  clear h hf hb
  go_enter Try.func24, Try.ntmps24
  go_wp2_with fail
  exact bodyPost_ret (results_agg2 Try.isAgg47 Try.sizeOf47 _ 2 3 rfl _ _ _ _ _ rfl rfl (ldA_alloc_new _ _ _ _ _ (by simp) (ml_size _))) rfl ⟨_, l, rfl, rfl, rfl, slE_keep (belowT below1 below1) HS.out, HF.out, (belowT below1 below1).mono HB0.out⟩

set_option maxRecDepth 100000 in
set_option maxHeartbeats 1000000 in
theorem post_open (cap : Int) (p : Option Addr) (n cp : Nat) (lag : Bool) (x : Nt) (l : List Nt) (base : Nat) (w : World) (h : OwnE Ent w base (.slice p n cp) l) (hl : l.length = n) (hn : n ≤ 1000) (hb : base ≤ w.heap.size) :
    Calls Try.prog 24 #[.agg (ml ⟨⟨cap, ⟨p, n, cp⟩, lag, false⟩, x⟩)] w (MailIs (if lastB Nt.ver l x.ver = true then ⟨cap, l, lag, false⟩ else if (l.length : Int) = cap then ⟨cap, l, true, false⟩ else ⟨cap, l ++ [x], lag, false⟩) x (!lastB Nt.ver l x.ver && !decide ((l.length : Int) = cap)) base w) := by
  have hs : SlE Ent w (sv ⟨p, n, cp⟩) l := ownE_slE h
  have HN := Lib.hid (fun W (g : Below w.heap.size w W) => newer_any ⟨⟨cap, ⟨p, n, cp⟩, lag, false⟩, x⟩ l W (slE_keep g hs) (by omega))
  obtain ⟨W0, hW0⟩ : ∃ W0, W0 = (w.alloc (.cells (ml ⟨⟨cap, ⟨p, n, cp⟩, lag, false⟩, x⟩) 47)).alloc (.cells (ml zml) 47) := ⟨_, rfl⟩
  have HB : Hid (Below w.heap.size w W0) := by rw [hW0]; exact belowT below1 below1
  have M0 : Hid (W0.heap[w.heap.size]? = some (.cells (ml ⟨⟨cap, ⟨p, n, cp⟩, lag, false⟩, x⟩) 47 (0, 0))) := by rw [hW0]; exact heap_alloc2_old w _ _
  have N0 : Hid (W0.heap[w.heap.size + 1]? = some (.cells (ml zml) 47 (0, 0))) := by rw [hW0]; exact heap_alloc2_new w _ _
  have HS := Lib.hid hs
  have HO := Lib.hid h
  have HB0 := Lib.hid hb
  have HL := Lib.hid hl
  have HN1 := Lib.hid hn
  have HW := Lib.hid hW0
  dsimp only at HN
  rw [hl]
  clear h hs hb hl hn hW0
  cases hr : lastB Nt.ver l x.ver with
  | true =>
    rw [hr] at HN
    rw [if_pos rfl]
    clear hr
    go_enter Try.func24, Try.ntmps24
    go_wp2_with fail
    rw [← HW.out]
    refine (HN.out _ HB.out).mono ?_
    rintro e w1 ⟨rfl, g1⟩
    obtain ⟨_, _, _, _, _, _, _, x7, _, _⟩ := ml_cells (blk_keep g1 M0.out)
    obtain ⟨_, _, _, _, _, _, _, _, y8, _⟩ := ml_cells (blk_keep g1 N0.out)
    have G1 := Lib.hid (belowT HB.out g1)
    have N1 := Lib.hid (blk_keep g1 N0.out)
    clear g1
    go_wp2_with fail
    exact bodyPost_ret (results_agg2 Try.isAgg47 Try.sizeOf47 _ 2 3 rfl _ _ _ _ _ rfl rfl (put_whole N1.out (ml_size _) (ml_size _))) rfl ⟨_, l, rfl, rfl, rfl, slE_keep (below_stA G1.out (by omega)) HS.out, (fun b hb => (ownE_lt HO.out hb).1), (below_stA G1.out (by omega)).mono HB0.out⟩
  | false =>
    rw [hr] at HN
    rw [if_neg Bool.false_ne_true]
    clear hr
    by_cases hc : (n : Int) = cap
    · have t1 : ((n : Int) == cap) = true := by simpa using hc
      rw [if_pos hc, decide_eq_true hc]
      clear hc
      go_enter Try.func24, Try.ntmps24
      go_wp2_with fail
      rw [← HW.out]
      refine (HN.out _ HB.out).mono ?_
      rintro e w1 ⟨rfl, g1⟩
      have M1 := Lib.hid (blk_keep g1 M0.out)
      have N1 := Lib.hid (blk_keep g1 N0.out)
      obtain ⟨x0, x1, x2, _, _, _, _, _, _, xl⟩ := ml_cells M1.out
      rw [sv_mk] at x1
      have xf : w1.frozen? ⟨w.heap.size, 2, none⟩ = false := frozen_of_row _ _ _ _ _ M1.out
      have M2 : Hid ((w1.setCell ⟨w.heap.size, 2, none⟩ (.bool true)).heap[w.heap.size]? = some (.cells (ml ⟨⟨cap, ⟨p, n, cp⟩, true, false⟩, x⟩) 47 (0, 0))) := by
        have := heap_setCell_same M1.out 2 (.bool true)
        rwa [ml_set_box_lag] at this
      have N2 : Hid ((w1.setCell ⟨w.heap.size, 2, none⟩ (.bool true)).heap[w.heap.size + 1]? = some (.cells (ml zml) 47 (0, 0))) := by
        rw [Below.heap_setCell _ _ _ _ (show w.heap.size + 1 ≠ w.heap.size by omega)]; exact N1.out
      have f1 := ldA_block M2.out (ml_size _)
      have f2 := wrA_block N2.out (ml_size _)
      have G2 : Hid (Below w.heap.size w (w1.setCell ⟨w.heap.size, 2, none⟩ (.bool true))) := below_set (belowT HB.out g1) (Nat.le_refl _)
      clear g1
      go_wp2_with fail
      exact bodyPost_ret (results_agg2 Try.isAgg47 Try.sizeOf47 _ 2 3 rfl _ _ _ _ _ rfl rfl (put_whole N2.out (ml_size _) (ml_size _))) rfl ⟨_, l, rfl, rfl, rfl, slE_keep (below_stA G2.out (by omega)) HS.out, (fun b hb => (ownE_lt HO.out hb).1), (below_stA G2.out (by omega)).mono HB0.out⟩
    · have t1 : ((n : Int) == cap) = false := by simpa using hc
      rw [if_neg hc, decide_eq_false hc]
      clear hc
      go_enter Try.func24, Try.ntmps24
      go_wp2_with fail
      rw [← HW.out]
      refine (HN.out _ HB.out).mono ?_
      rintro e w1 ⟨rfl, g1⟩
      have M1 := Lib.hid (blk_keep g1 M0.out)
      have N1 := Lib.hid (blk_keep g1 N0.out)
      obtain ⟨x0, x1, _, _, _, _, x6, _, _, xl⟩ := ml_cells M1.out
      rw [sv_mk] at x1
      have xo := Lib.hid (ownE_keep (belowT HB.out g1) HO.out)
      have G1 := Lib.hid (belowT HB.out g1)
      clear g1
      have hne0 : (Value.slice p n cp).ownBlock ≠ some w.heap.size := ownE_ne HO.out (Nat.le_refl _)
      have hne1 : (Value.slice p n cp).ownBlock ≠ some (w.heap.size + 1) := ownE_ne HO.out (by omega)
      have HNE0 := Lib.hid hne0
      have HNE1 := Lib.hid hne1
      clear hne0 hne1
      go_wp2_with (
        at_builtin; go_loud (
        refine wpList_append_E Knt _ rfl (.tmp 26) (.tmp 29) rfl base _ l rfl (ownE_alloc xo.out _) _ [x] rfl (slE_lit _ [x] 1 _ _ _ rfl (by simp) (by simp [cellsE, Ent, nt_list])) (by have := HL.out; have := HN1.out; simp; omega) (by have := HB0.out; have := G1.out.size; simp; omega) ?_
        intro v2 w2 ho2 hg2'
        have hg2 : Gr (w1.alloc (.cells (nt x) 31)) (Value.slice p n cp) w2 v2 := hg2'
        clear hg2'
        have M2 := Lib.hid (hg2.heap (blk_keep below1 M1.out) HNE0.out)
        have N2 := Lib.hid (hg2.heap (blk_keep below1 N1.out) HNE1.out)
        have B2 := Lib.hid (((belowT G1.out below1).mono HB0.out).trans (hg2.own (ownE_alloc xo.out _) (by have := HB0.out; have := G1.out.size; simp; omega)))
        have O2 := Lib.hid (ownE_slE ho2)
        have F2 : Hid (∀ b, v2.ownBlock = some b → base ≤ b) := fun b hb => (ownE_lt ho2 hb).1
        have K2 : Hid (∀ b, v2.ownBlock = some b → b ≠ w.heap.size ∧ b ≠ w.heap.size + 1) := by
          intro b hb
          have hsz : w.heap.size + 1 < w1.heap.size := (Array.getElem?_eq_some_iff.1 N1.out).1
          rcases hg2.2 with e | e
          · have hb' := e.symm.trans hb
            exact ⟨fun e => HNE0.out (by rw [hb', e]), fun e => HNE1.out (by rw [hb', e])⟩
          · have := e b hb
            simp at this
            omega
        clear ho2 hg2
        obtain ⟨p2, c2, rfl⟩ := slE_len O2.out (n := n + 1) (by rw [List.length_append, HL.out]; rfl)
        have z1 : w2.cell? ⟨w.heap.size, 1, none⟩ = some (.slice p n cp) := (ml_cells M2.out).2.1
        have zf : w2.frozen? ⟨w.heap.size, 1, none⟩ = false := frozen_of_row _ _ _ _ _ M2.out
        have M3 : Hid ((w2.setCell ⟨w.heap.size, 1, none⟩ (.slice p2 (n + 1) c2)).heap[w.heap.size]? = some (.cells (ml ⟨⟨cap, ⟨p2, n + 1, c2⟩, lag, false⟩, x⟩) 47 (0, 0))) := by
          have := heap_setCell_same M2.out 1 (.slice p2 (n + 1) c2)
          rwa [ml_sets_box_l] at this
        have N3 : Hid ((w2.setCell ⟨w.heap.size, 1, none⟩ (.slice p2 (n + 1) c2)).heap[w.heap.size + 1]? = some (.cells (ml zml) 47 (0, 0))) := by
          show _ = _
          rw [Below.heap_setCell _ _ _ _ (show w.heap.size + 1 ≠ w.heap.size by omega)]; exact N2.out
        have f1 := ldA_block M3.out (ml_size _)
        have f2 := wrA_block N3.out (ml_size _)))
      have G3 := Lib.hid (below_stA (o := 0) (x := .agg (ml ⟨⟨cap, ⟨p2, n + 1, c2⟩, lag, false⟩, x⟩)) (below_set (o := 1) (v := .slice p2 (n + 1) c2) B2.out HB0.out) (show base ≤ w.heap.size + 1 by have := HB0.out; omega))
      exact bodyPost_ret (results_agg2 Try.isAgg47 Try.sizeOf47 _ 2 3 rfl _ _ _ _ _ rfl rfl (put_whole N3.out (ml_size _) (ml_size _))) rfl ⟨_, l ++ [x], rfl, rfl, rfl, slE_block O2.out (by rw [size_stA]; exact Nat.le_of_eq (by simp [World.setCell])) (fun b _ hb => by
        obtain ⟨k0, k1⟩ := K2.out b hb
        rw [heap_stA k1, Below.heap_setCell _ _ _ _ k0]), F2.out, G3.out⟩
end Go.Proofs.Ytiljgnhnpoackaa
