/-
  Package late: Put, walked; what is asked of the package, whole.
-/
import Derived.Test.YtljehgohcchocaaP13May
import Derived.Test.YtljehgohcchocaaCloneA
namespace Go.Proofs.Ytljehgohcchocaa
open Go.RowKit
set_option maxRecDepth 100000

theorem beyA_no {x : Aa} (h : beyA x = false) : x.slot.toNat ≤ 1099511627776 := by
  unfold beyA at h
  rw [decide_eq_false_iff_not] at h
  omega
theorem putOkA_no {l : List Aa} {x : Aa} (h : mayA l = false ∨ beyA x = true) : putOkA l x = false := by
  unfold putOkA
  rcases h with h | h
  · rw [h]; rfl
  · unfold beyA at h
    rw [decide_eq_true_iff] at h
    rw [decide_eq_false (by omega), Bool.and_false]

set_option maxRecDepth 100000 in
set_option maxHeartbeats 8000000 in
theorem latPutP_n (p : Option Addr) (n cp : Nat) (l : List Aa) (x : Aa) (w : World) (h : SlE Eaa w (.slice p n cp) l) (hl : l.length = n) (hn : n ≤ 1000) :
    Calls Try.prog 9 #[.slice p n cp, .agg (aa x)] w (AttsEr (putA l x) (putE l x) w) := by
  have HS := Lib.hid h
  have HL := Lib.hid hl
  have HN := Lib.hid hn
  obtain ⟨W0, hW0⟩ : ∃ W0, W0 = w.alloc (.cells (aa x) 29) := ⟨_, rfl⟩
  have HB : Hid (Below w.heap.size w W0) := by rw [hW0]; exact below1
  have M0 : Hid (W0.heap[w.heap.size]? = some (.cells (aa x) 29 (0, 0))) := by rw [hW0]; exact heap_alloc_last w _
  have HC := Lib.hid (cloneAa_n p n cp l W0 (slE_keep HB.out h) hl (by omega))
  have HM := Lib.hid (fun W (g : Below w.heap.size w W) => latMayP_n p n cp l W (slE_keep g h) hl)
  have HI := Lib.hid (fun W => lateBeyond x W)
  have HW := Lib.hid hW0
  obtain ⟨b, hb⟩ : ∃ b, b = mayA l := ⟨_, rfl⟩
  rw [← hb] at HM
  have HBb := Lib.hid hb.symm
  obtain ⟨y, hy⟩ : ∃ y, y = beyA x := ⟨_, rfl⟩
  rw [← hy] at HI
  have HY := Lib.hid hy.symm
  clear hW0 h hl hn hb hy
  go_enter Try.func9, Try.ntmps9
  go_upto_region 1 with fail
  rw [← HW.out]
  go_wp2_with fail
  refine HC.out.mono ?_
  rintro e w1 ⟨v1, rfl, ho, g1⟩
  have G1 := Lib.hid (belowT HB.out g1)
  have M1 := Lib.hid (blk_keep g1 M0.out)
  have O1 := Lib.hid (ownE_base ho HB.out.size)
  obtain ⟨p1, c1, rfl⟩ := ownE_len ho HL.out
  clear ho g1
  go_wp2_with fail
  refine (HM.out w1 G1.out).mono ?_
  rintro e w2 ⟨rfl, g2⟩
  have G2 := Lib.hid (belowT G1.out g2)
  have M2 := Lib.hid (blk_keep g2 M1.out)
  have O2 := Lib.hid (ownE_keep g2 O1.out)
  clear g2
  cases b
  · have hno := putOkA_no (x := x) (.inl HBb.out)
    have HF : Hid (putA l x = l ∧ putE l x = 1) := ⟨by unfold putA; rw [if_neg (by rw [hno]; exact Bool.false_ne_true)], by unfold putE; rw [if_neg (by rw [hno]; exact Bool.false_ne_true)]⟩
    clear hno
    go_wp2_with fail
    go_ret2
    exact ⟨_, by rw [HF.out.2]; first | done | rfl, by rw [HF.out.1]; exact ownE_slE O2.out, G2.out⟩
  · have z2 := ldA_block M2.out (aa_size x)
    go_wp2_with fail
    refine (HI.out w2).mono ?_
    rintro e w3 ⟨rfl, g3⟩
    have G3 := Lib.hid (belowT G2.out g3)
    have M3 := Lib.hid (blk_keep g3 M2.out)
    have O3 := Lib.hid (ownE_keep g3 O2.out)
    clear g3 z2
    cases y
    · have hyes : putOkA l x = true := by unfold putOkA; rw [HBb.out, decide_eq_true (beyA_no HY.out)]; rfl
      by_cases h6 : n = 6
      · have HF : Hid (putA l x = l ∧ putE l x = 3) := ⟨by unfold putA; rw [if_pos hyes, if_pos (by rw [HL.out]; exact h6)], by unfold putE; rw [if_pos hyes, if_pos (by rw [HL.out]; exact h6)]⟩
        subst h6
        clear hyes
        go_wp2_with fail
        go_ret2
        exact ⟨_, by rw [HF.out.2]; first | done | rfl, by rw [HF.out.1]; exact ownE_slE O3.out, G3.out⟩
      · have t1 : ((n : Int) == 6) = false := by rw [beq_eq_false_iff_ne]; omega
        have HF : Hid (putA l x = l ++ [x] ∧ putE l x = 0) := ⟨by unfold putA; rw [if_pos hyes, if_neg (by rw [HL.out]; exact h6)], by unfold putE; rw [if_pos hyes, if_neg (by rw [HL.out]; exact h6)]⟩
        have Z : Hid (w.heap.size ≤ w3.heap.size) := G3.out.size
        have z3 := ldA_block M3.out (aa_size x)
        clear hyes h6
        go_wp2_with (at_builtin; go_loud (refine wpList_append_E Kaa _ rfl (.tmp 23) (.tmp 25) rfl w.heap.size _ l rfl (ownE_alloc O3.out _) _ [x] rfl (aa_lit1 _ x _ (by simp)) (by have := HL.out; have := HN.out; simp; omega) (by have := Z.out; simp; omega) ?_; intro v4 w4 ho4 hg4; have O4 := Lib.hid ho4; have G4 := Lib.hid (Gr.alloc hg4); clear ho4 hg4))
        go_ret2
        exact ⟨_, by rw [HF.out.2]; first | done | rfl, by rw [HF.out.1]; exact ownE_slE O4.out, G3.out.trans (G4.out.own O3.out Z.out)⟩
    · have hno := putOkA_no (l := l) (.inr HY.out)
      have HF : Hid (putA l x = l ∧ putE l x = 1) := ⟨by unfold putA; rw [if_neg (by rw [hno]; exact Bool.false_ne_true)], by unfold putE; rw [if_neg (by rw [hno]; exact Bool.false_ne_true)]⟩
      clear hno
      go_wp2_with fail
      go_ret2
      exact ⟨_, by rw [HF.out.2]; first | done | rfl, by rw [HF.out.1]; exact ownE_slE O3.out, G3.out⟩
theorem latPutP (v : Value) (l : List Aa) (x : Aa) (w : World) (h : SlE Eaa w v l) (hn : l.length ≤ 1000) :
    Calls Try.prog 9 #[v, .agg (aa x)] w (AttsEr (putA l x) (putE l x) w) := by
  have k := h
  obtain ⟨p, cp, rfl, _⟩ := slE_shape h
  exact latPutP_n p _ cp l x w k rfl hn
end Go.Proofs.Ytljehgohcchocaa
