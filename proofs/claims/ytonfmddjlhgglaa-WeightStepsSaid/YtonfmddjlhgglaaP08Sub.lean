/-
  Package weight: Sub, walked.
-/
import Derived.Test.YtonfmddjlhgglaaP08Back
import Derived.Test.YtonfmddjlhgglaaCloneN
import Derived.Test.YtonfmddjlhgglaaP06May
import Derived.Test.YtonfmddjlhgglaaW08
import Derived.Deep.Cut
import Derived.Deep.CutRange
import Derived.Deep.RegionLaw
namespace Go.Proofs.Ytonfmddjlhgglaa
open Go.RowKit

theorem new_drewN (w : World) (o : Obj) (n : Nat) : ((w.alloc o).drewN n).heap[w.heap.size]? = some o := heap_alloc_last w o
theorem heap_putN {w : World} {g : Nat} {c r : Array Value} {t : TypeId} (hg : w.heap[g]? = some (.cells c t (0, 0))) (h : r.size = c.size) : (stA w (.pointer (some ⟨g, 0, none⟩)) (.agg r)).heap[g]? = some (.cells r t (0, 0)) := by
  rw [heap_stA_same hg (by omega)]
  congr 2
  apply Array.toList_inj.1
  unfold putSeg
  simp only [List.take_zero, List.nil_append, Nat.zero_add]
  rw [List.drop_of_length_le (by rw [Array.length_toList]; omega), List.append_nil]
/-- The variable of what sums are handed on in, wherever its block came up. -/
def VarS (W : World) (s : SlV) (a : List UInt64) (n : Nat) (t : Value) (wx : World) : Prop :=
  ∃ g gc cap, t = .pointer (some ⟨g, 0, none⟩) ∧ wx.heap[g]? = some (.cells (sm ⟨⟨s⟩, ⟨some ⟨gc, 0, none⟩, n, cap⟩⟩) 41 (0, 0)) ∧ OwnE Enum wx W.heap.size (.slice (some ⟨gc, 0, none⟩) n cap) a ∧ Below W.heap.size W wx

theorem varS_old {W w2 : World} {k : Nat} {s : SlV} {a : List UInt64} {n gc cap : Nat} (g2 : Below ((W.alloc (.cells (sm zsm) 41)).drewN k).heap.size ((W.alloc (.cells (sm zsm) 41)).drewN k) w2)
    (ho : OwnE Enum w2 ((W.alloc (.cells (sm zsm) 41)).drewN k).heap.size (.slice (some ⟨gc, 0, none⟩) n cap) a) : VarS W s a n (.pointer (some ⟨W.heap.size, 0, none⟩)) (stA w2 (.pointer (some ⟨W.heap.size, 0, none⟩)) (.agg (sm ⟨⟨s⟩, ⟨some ⟨gc, 0, none⟩, n, cap⟩⟩))) := by
  have hz : ((W.alloc (.cells (sm zsm) 41)).drewN k).heap.size = W.heap.size + 1 := by show (W.alloc _).heap.size = _; simp
  have hn := blk_keep g2 (new_drewN W _ k)
  rw [hz] at ho
  refine ⟨_, gc, cap, rfl, heap_putN hn (by rw [sm_size, sm_size]), ownE_base (ownE_stA ho (by omega)) (by omega), ?_⟩
  exact below_stA (belowT (belowD below1 k) g2) (Nat.le_refl _)
theorem varS_new {W w2 : World} {k : Nat} {s : SlV} {a : List UInt64} {n gc cap : Nat} (g2 : Below (W.drewN k).heap.size (W.drewN k) w2)
    (ho : OwnE Enum w2 (W.drewN k).heap.size (.slice (some ⟨gc, 0, none⟩) n cap) a) : VarS W s a n (.pointer (some ⟨w2.heap.size, 0, none⟩)) (w2.alloc (.cells (sm ⟨⟨s⟩, ⟨some ⟨gc, 0, none⟩, n, cap⟩⟩) 41)) :=
  ⟨_, gc, cap, rfl, heap_alloc_last _ _, ownE_alloc ho _, belowT (belowT (belowD (Below.refl _ _) k) g2) below1⟩

set_option maxRecDepth 100000 in
set_option maxHeartbeats 4000000 in
theorem weightSub_no (p q : Option Addr) (n cp m cq : Nat) (l : List Nd) (w : World) (h : SlE Ene w (.slice p n cp) l) (hk : ¬ (MayT l ∧ m = n)) :
    Calls Try.prog 10 #[.agg (tr ⟨⟨p, n, cp⟩⟩), .slice q m cq] w (NumsOk [] false w) := by
  have HM := Lib.hid (fun W (g : Below w.heap.size w W) => treeMay ⟨p, n, cp⟩ l W (slE_keep g h))
  obtain ⟨W0, hW0⟩ : ∃ W0, W0 = w.alloc (.cells (tr ⟨⟨p, n, cp⟩⟩) 24) := ⟨_, rfl⟩
  have HB : Hid (Below w.heap.size w W0) := by rw [hW0]; exact below1
  have M0 : Hid (W0.heap[w.heap.size]? = some (.cells (tr ⟨⟨p, n, cp⟩⟩) 24 (0, 0))) := by rw [hW0]; exact heap_alloc_last w _
  have HW := Lib.hid hW0
  obtain ⟨r, hr⟩ : ∃ r, r = decide (MayT l) := ⟨_, rfl⟩
  rw [← hr] at HM
  have HK : Hid (r = true → ((m : Int) != (n : Int)) = true) := fun e => by
    rw [bne_iff_ne]
    intro e2
    exact hk ⟨of_decide_eq_true (hr.symm.trans e), by omega⟩
  clear hW0 h hk hr
  go_enter Try.func10, Try.ntmps10
  go_wp2_with fail
  rw [← HW.out]
  refine (HM.out W0 HB.out).mono ?_
  rintro e w1 ⟨rfl, g1⟩
  have G1 := Lib.hid (belowT HB.out g1)
  obtain ⟨z0, z1, zl⟩ := tr_cells (blk_keep g1 M0.out)
  dsimp only at z0
  rw [sv_mk] at z0
  clear g1
  cases r
  · go_wp2_with fail
    go_ret2
    exact ⟨_, rfl, ownE_nil _ _ _, G1.out⟩
  · have t1 := HK.out rfl
    go_wp2_with fail
    go_ret2
    exact ⟨_, rfl, ownE_nil _ _ _, G1.out⟩

set_option maxRecDepth 100000 in
set_option maxHeartbeats 8000000 in
theorem weightSub_yes (p q : Option Addr) (n cp cq : Nat) (l : List Nd) (a : List UInt64) (w : World) (h : SlE Ene w (.slice p n cp) l) (h' : SlE Enum w (.slice q n cq) a) (hl : l.length = n) (ha : a.length = n) (hm : MayT l) :
    Calls Try.prog 10 #[.agg (tr ⟨⟨p, n, cp⟩⟩), .slice q n cq] w (NumsOk (subL l a) (subOk l a) w) := by
  have HM : Hid (∀ W, Below w.heap.size w W → Calls Try.prog 16 #[.agg (tr ⟨⟨p, n, cp⟩⟩)] W fun e w' => e = .returned (.bool true) ∧ Below W.heap.size W w') := fun W g => by
    have := treeMay ⟨p, n, cp⟩ l W (slE_keep g h)
    rwa [decide_eq_true hm] at this
  have HC := Lib.hid (fun W (g : Below w.heap.size w W) => cloneNum (.slice q n cq) a W (slE_keep g h') (by have := hm.le; omega))
  obtain ⟨W0, hW0⟩ : ∃ W0, W0 = w.alloc (.cells (tr ⟨⟨p, n, cp⟩⟩) 24) := ⟨_, rfl⟩
  have HB : Hid (Below w.heap.size w W0) := by rw [hW0]; exact below1
  have M0 : Hid (W0.heap[w.heap.size]? = some (.cells (tr ⟨⟨p, n, cp⟩⟩) 24 (0, 0))) := by rw [hW0]; exact heap_alloc_last w _
  have HW := Lib.hid hW0
  have HS := Lib.hid h
  have HL := Lib.hid hl
  have HMm := Lib.hid hm
  have HLA := Lib.hid ha
  have HN : Hid (0 < n) := by show 0 < n; have := hm.pos; omega
  have t0 : ((n : Int) != (n : Int)) = false := by simp
  clear hW0 h h' hl ha hm
  go_enter Try.func10, Try.ntmps10
  go_wp2_with fail
  rw [← HW.out]
  refine (HM.out W0 HB.out).mono ?_
  rintro e w1 ⟨rfl, g1⟩
  have G1 := Lib.hid (belowT HB.out g1)
  have M1 := Lib.hid (blk_keep g1 M0.out)
  obtain ⟨z0, z1, zl⟩ := tr_cells M1.out
  dsimp only at z0
  rw [sv_mk] at z0
  clear g1
  go_upto_region 3 with fail
  go_cut [6] from 18 to 22 (fun t wx => VarS w1 ⟨p, n, cp⟩ a n t wx)
  case first =>
    go_region_law (refine step_callE _ rfl rfl enters_cloneNum #[.slice q n cq] rfl ?_; refine (HC.out _ (by first | exact belowT G1.out (belowD (Below.refl _ _) _) | exact belowT G1.out (belowD below1 _))).mono ?_; rintro e w2 ⟨v2, rfl, ho, g2⟩; refine ⟨_, rfl, ?_⟩; obtain ⟨gc, cap, rfl, hgc⟩ := ownN_form ho HLA.out HN.out; obtain ⟨-, zt, zu⟩ := tr_cells (blk_keep (belowT (by first | exact belowD (Below.refl _ _) _ | exact belowD below1 _) g2) M1.out); (try (have yw := wrA_block (blk_keep g2 (new_drewN w1 _ _)) (sm_size _))); (first | (have HR := Lib.hid (varS_old (s := ⟨p, n, cp⟩) g2 ho)) | (have HR := Lib.hid (varS_new (W := w1) (s := ⟨p, n, cp⟩) g2 ho))))
    all_goals (go_wp2_with fail; go_meet; exact HR.out)
  case rest =>
    obtain ⟨g, gc, cap, rfl, hg, ho, hb⟩ := hcut
    have G2 := Lib.hid (belowT G1.out hb)
    have B0 := Lib.hid hb
    have HX := Lib.hid (backHand (.agg (sm ⟨⟨⟨p, n, cp⟩⟩, ⟨some ⟨gc, 0, none⟩, n, cap⟩⟩)) (some ⟨gc, 0, none⟩) n cap wc (HandM w1 gc n cap l a) (fun W => subOk l a = false ∧ Below w1.heap.size w1 W) (by have := HMm.out.le; have := HL.out; omega)
      (fun m W hmn hr => by
        by_cases h0 : m = 0
        · subst h0
          exact (handOn_zero ⟨p, n, cp⟩ gc n cap l a w1 W HMm.out hr).mono fun e w' ⟨h1, h2⟩ => ⟨true, h1, fun _ => h2, fun e => by cases e⟩
        · exact handOn_pos ⟨p, n, cp⟩ gc n cap l a m w1 W (slE_keep G1.out HS.out) HL.out HMm.out hr (by omega) hmn)
      ⟨hb, a, ho, by rw [← HL.out]; exact handI_start (by rw [HLA.out, HL.out])⟩)
    obtain ⟨y0, y1, y2, yl⟩ := sm_cells hg
    dsimp only at y1
    rw [sv_mk] at y1
    clear hg ho hb
    go_wp2_with fail
    refine HX.out.mono ?_
    rintro e w3 ⟨v, ok, rfl, h1, h2⟩
    cases ok
    · obtain ⟨rfl, h3, h4⟩ := h2 rfl
      have HF := Lib.hid h3
      have HB4 := Lib.hid h4
      clear h1 h2 h3 h4
      go_wp2_with fail
      go_ret2
      exact ⟨_, by rw [HF.out]; first | done | rfl, by rw [subL_no HF.out]; exact ownE_nil _ _ _, belowT G1.out HB4.out⟩
    · obtain ⟨rfl, hb4, c, ho, hi⟩ := h1 rfl
      obtain ⟨e1, rfl⟩ := handI_end HMm.out (by rw [HLA.out, HL.out]) hi
      have HF := Lib.hid e1
      have HB4 := Lib.hid hb4
      have HO := Lib.hid ho
      clear h1 h2 hb4 ho hi e1
      go_wp2_with fail
      go_ret2
      exact ⟨_, by rw [HF.out]; first | done | rfl, ownE_base HO.out G1.out.size, belowT G1.out HB4.out⟩
/-- Sub. -/
theorem weightSub (s : SlV) (v : Value) (l : List Nd) (a : List UInt64) (w : World) (h : SlE Ene w (sv s) l) (h' : SlE Enum w v a) :
    Calls Try.prog 10 #[.agg (tr ⟨s⟩), v] w (NumsOk (subL l a) (subOk l a) w) := by
  have k := h'
  have hs := sv_lenN h
  obtain ⟨q, cq, rfl, _⟩ := slE_shape h'
  obtain ⟨p, n, cp⟩ := s
  dsimp only at hs
  subst hs
  by_cases hk : MayT l ∧ a.length = l.length
  · rw [hk.2] at k ⊢
    exact weightSub_yes p q _ cp cq l a w h k rfl hk.2 hk.1
  · have e : subOk l a = false := by
      rw [← Bool.not_eq_true]
      intro e
      obtain ⟨h1, h2, _⟩ := subOk_iff.1 e
      exact hk ⟨h1, h2⟩
    rw [subL_no e, e]
    exact weightSub_no p q _ cp _ cq l w h hk
theorem subC : SubC := fun s v l a w h h' => (weightSub s v l a w h h').mono fun _ _ k => k.is
theorem enters_weightSub : ∀ args w, (callFunc 10 args).run Try.prog w = .ok (.enter 10 args) w := entersE Try.func10 (by kernel_rfl) (by kernel_rfl)
end Go.Proofs.Ytonfmddjlhgglaa
