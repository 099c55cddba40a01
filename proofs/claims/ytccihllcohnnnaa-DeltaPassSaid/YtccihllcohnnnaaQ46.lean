/-
  Package weight: Sub, walked.
  Package weight: Pass, walked.
-/
import Derived.Test.YtccihllcohnnnaaQ45
import Derived.Test.YtccihllcohnnnaaQ31
import Derived.Test.YtccihllcohnnnaaQ24
import Derived.Deep.Cut
import Derived.Deep.CutRange
import Derived.Deep.RegionLaw
import Derived.Test.YtccihllcohnnnaaQ44
namespace Go.Proofs.Ytccihllcohnnnaa
open Go.RowKit
set_option maxRecDepth 100000

theorem new_drewN (w : World) (o : Obj) (n : Nat) : ((w.alloc o).drewN n).heap[w.heap.size]? = some o := heap_alloc_last w o
theorem heap_putN {w : World} {g : Nat} {c r : Array Value} {t : TypeId} (hg : w.heap[g]? = some (.cells c t (0, 0))) (h : r.size = c.size) : (stA w (.pointer (some ⟨g, 0, none⟩)) (.agg r)).heap[g]? = some (.cells r t (0, 0)) := by
  rw [heap_stA_same hg (by omega)]
  congr 2
  apply Array.toList_inj.1
  unfold putSeg
  simp only [List.take_zero, List.nil_append, Nat.zero_add]
  rw [List.drop_of_length_le (by rw [Array.length_toList]; omega), List.append_nil]
/-- The variable of what sums are handed on in, wherever its block came up. -/
def VarS (W : World) (s : SlV) (a : List UInt64) (n : Nat) (t : Value) (wx : World) : Prop :=
  ∃ g gc cap, t = .pointer (some ⟨g, 0, none⟩) ∧ wx.heap[g]? = some (.cells (sm ⟨⟨s⟩, ⟨some ⟨gc, 0, none⟩, n, cap⟩⟩) 80 (0, 0)) ∧ OwnE Enum wx W.heap.size (.slice (some ⟨gc, 0, none⟩) n cap) a ∧ Below W.heap.size W wx

theorem varS_old {W w2 : World} {k : Nat} {s : SlV} {a : List UInt64} {n gc cap : Nat} (g2 : Below ((W.alloc (.cells (sm zsm) 80)).drewN k).heap.size ((W.alloc (.cells (sm zsm) 80)).drewN k) w2)
    (ho : OwnE Enum w2 ((W.alloc (.cells (sm zsm) 80)).drewN k).heap.size (.slice (some ⟨gc, 0, none⟩) n cap) a) : VarS W s a n (.pointer (some ⟨W.heap.size, 0, none⟩)) (stA w2 (.pointer (some ⟨W.heap.size, 0, none⟩)) (.agg (sm ⟨⟨s⟩, ⟨some ⟨gc, 0, none⟩, n, cap⟩⟩))) := by
  have hz : ((W.alloc (.cells (sm zsm) 80)).drewN k).heap.size = W.heap.size + 1 := by show (W.alloc _).heap.size = _; simp
  have hn := blk_keep g2 (new_drewN W _ k)
  rw [hz] at ho
  refine ⟨_, gc, cap, rfl, heap_putN hn (by rw [sm_size, sm_size]), ownE_base (ownE_stA ho (by omega)) (by omega), ?_⟩
  exact below_stA (belowT (belowD below1 k) g2) (Nat.le_refl _)
theorem varS_new {W w2 : World} {k : Nat} {s : SlV} {a : List UInt64} {n gc cap : Nat} (g2 : Below (W.drewN k).heap.size (W.drewN k) w2)
    (ho : OwnE Enum w2 (W.drewN k).heap.size (.slice (some ⟨gc, 0, none⟩) n cap) a) : VarS W s a n (.pointer (some ⟨w2.heap.size, 0, none⟩)) (w2.alloc (.cells (sm ⟨⟨s⟩, ⟨some ⟨gc, 0, none⟩, n, cap⟩⟩) 80)) :=
  ⟨_, gc, cap, rfl, heap_alloc_last _ _, ownE_alloc ho _, belowT (belowT (belowD (Below.refl _ _) k) g2) below1⟩

set_option maxRecDepth 100000 in
set_option maxHeartbeats 4000000 in
theorem weightSub_no (p q : Option Addr) (n cp m cq : Nat) (l : List Nd) (w : World) (h : SlE Ene w (.slice p n cp) l) (hk : ¬ (MayT l ∧ m = n)) :
    Calls Try.prog 26 #[.agg (tr ⟨⟨p, n, cp⟩⟩), .slice q m cq] w (NumsOk [] false w) := by
  have HM := Lib.hid (fun W (g : Below w.heap.size w W) => treeMay ⟨p, n, cp⟩ l W (slE_keep g h))
  obtain ⟨W0, hW0⟩ : ∃ W0, W0 = w.alloc (.cells (tr ⟨⟨p, n, cp⟩⟩) 24) := ⟨_, rfl⟩
  have HB : Hid (Below w.heap.size w W0) := by rw [hW0]; exact below1
  have M0 : Hid (W0.heap[w.heap.size]? = some (.cells (tr ⟨⟨p, n, cp⟩⟩) 24 (0, 0))) := by rw [hW0]; exact heap_alloc_last w _
  have HW := Lib.hid hW0
  obtain ⟨r, hr⟩ : ∃ r, r = decide (MayT l) := ⟨_, rfl⟩
  rw [← hr] at HM
  have HK : Hid (r = true → ((m : Int) != (n : Int)) = true) := fun e => by
    rw [bne_iff_ne]
    intro e2
    exact hk ⟨of_decide_eq_true (hr.symm.trans e), by omega⟩
  clear hW0 h hk hr
  go_enter Try.func26, Try.ntmps26
  go_wp2_with fail
  rw [← HW.out]
  refine (HM.out W0 HB.out).mono ?_
  rintro e w1 ⟨rfl, g1⟩
  have G1 := Lib.hid (belowT HB.out g1)
  obtain ⟨z0, z1, zl⟩ := tr_cells (blk_keep g1 M0.out)
  dsimp only at z0
  rw [sv_mk] at z0
  clear g1
  cases r
  · go_wp2_with fail
    go_ret2
    exact ⟨_, rfl, ownE_nil _ _ _, G1.out⟩
  · have t1 := HK.out rfl
    go_wp2_with fail
    go_ret2
    exact ⟨_, rfl, ownE_nil _ _ _, G1.out⟩

set_option maxRecDepth 100000 in
set_option maxHeartbeats 8000000 in
theorem weightSub_yes (p q : Option Addr) (n cp cq : Nat) (l : List Nd) (a : List UInt64) (w : World) (h : SlE Ene w (.slice p n cp) l) (h' : SlE Enum w (.slice q n cq) a) (hl : l.length = n) (ha : a.length = n) (hm : MayT l) :
    Calls Try.prog 26 #[.agg (tr ⟨⟨p, n, cp⟩⟩), .slice q n cq] w (NumsOk (subL l a) (subOk l a) w) := by
  have HM : Hid (∀ W, Below w.heap.size w W → Calls Try.prog 35 #[.agg (tr ⟨⟨p, n, cp⟩⟩)] W fun e w' => e = .returned (.bool true) ∧ Below W.heap.size W w') := fun W g => by
    have := treeMay ⟨p, n, cp⟩ l W (slE_keep g h)
    rwa [decide_eq_true hm] at this
  have HC := Lib.hid (fun W (g : Below w.heap.size w W) => cloneNum (.slice q n cq) a W (slE_keep g h') (by have := hm.le; omega))
  obtain ⟨W0, hW0⟩ : ∃ W0, W0 = w.alloc (.cells (tr ⟨⟨p, n, cp⟩⟩) 24) := ⟨_, rfl⟩
  have HB : Hid (Below w.heap.size w W0) := by rw [hW0]; exact below1
  have M0 : Hid (W0.heap[w.heap.size]? = some (.cells (tr ⟨⟨p, n, cp⟩⟩) 24 (0, 0))) := by rw [hW0]; exact heap_alloc_last w _
  have HW := Lib.hid hW0
  have HS := Lib.hid h
  have HL := Lib.hid hl
  have HMm := Lib.hid hm
  have HLA := Lib.hid ha
  have HN : Hid (0 < n) := by show 0 < n; have := hm.pos; omega
  have t0 : ((n : Int) != (n : Int)) = false := by simp
  clear hW0 h h' hl ha hm
  go_enter Try.func26, Try.ntmps26
  go_wp2_with fail
  rw [← HW.out]
  refine (HM.out W0 HB.out).mono ?_
  rintro e w1 ⟨rfl, g1⟩
  have G1 := Lib.hid (belowT HB.out g1)
  have M1 := Lib.hid (blk_keep g1 M0.out)
  obtain ⟨z0, z1, zl⟩ := tr_cells M1.out
  dsimp only at z0
  rw [sv_mk] at z0
  clear g1
  go_upto_region 3 with fail
  go_cut [6] from 18 to 22 (fun t wx => VarS w1 ⟨p, n, cp⟩ a n t wx)
  case first =>
    go_region_law (refine step_callE _ rfl rfl enters_cloneNum #[.slice q n cq] rfl ?_; refine (HC.out _ (by first | exact belowT G1.out (belowD (Below.refl _ _) _) | exact belowT G1.out (belowD below1 _))).mono ?_; rintro e w2 ⟨v2, rfl, ho, g2⟩; refine ⟨_, rfl, ?_⟩; obtain ⟨gc, cap, rfl, hgc⟩ := ownN_form ho HLA.out HN.out; obtain ⟨-, zt, zu⟩ := tr_cells (blk_keep (belowT (by first | exact belowD (Below.refl _ _) _ | exact belowD below1 _) g2) M1.out); (try (have yw := wrA_block (blk_keep g2 (new_drewN w1 _ _)) (sm_size _))); (first | (have HR := Lib.hid (varS_old (s := ⟨p, n, cp⟩) g2 ho)) | (have HR := Lib.hid (varS_new (W := w1) (s := ⟨p, n, cp⟩) g2 ho))))
    all_goals (go_wp2_with fail; go_meet; exact HR.out)
  case rest =>
    obtain ⟨g, gc, cap, rfl, hg, ho, hb⟩ := hcut
    have G2 := Lib.hid (belowT G1.out hb)
    have B0 := Lib.hid hb
    have HX := Lib.hid (backHand (.agg (sm ⟨⟨⟨p, n, cp⟩⟩, ⟨some ⟨gc, 0, none⟩, n, cap⟩⟩)) (some ⟨gc, 0, none⟩) n cap wc (HandM w1 gc n cap l a) (fun W => subOk l a = false ∧ Below w1.heap.size w1 W) (by have := HMm.out.le; have := HL.out; omega)
      (fun m W hmn hr => by
        by_cases h0 : m = 0
        · subst h0
          exact (handOn_zero ⟨p, n, cp⟩ gc n cap l a w1 W HMm.out hr).mono fun e w' ⟨h1, h2⟩ => ⟨true, h1, fun _ => h2, fun e => by cases e⟩
        · exact handOn_pos ⟨p, n, cp⟩ gc n cap l a m w1 W (slE_keep G1.out HS.out) HL.out HMm.out hr (by omega) hmn)
      ⟨hb, a, ho, by rw [← HL.out]; exact handI_start (by rw [HLA.out, HL.out])⟩)
    obtain ⟨y0, y1, y2, yl⟩ := sm_cells hg
    dsimp only at y1
    rw [sv_mk] at y1
    clear hg ho hb
    go_wp2_with fail
    refine HX.out.mono ?_
    rintro e w3 ⟨v, ok, rfl, h1, h2⟩
    cases ok
    · obtain ⟨rfl, h3, h4⟩ := h2 rfl
      have HF := Lib.hid h3
      have HB4 := Lib.hid h4
      clear h1 h2 h3 h4
      go_wp2_with fail
      go_ret2
      exact ⟨_, by rw [HF.out]; first | done | rfl, by rw [subL_no HF.out]; exact ownE_nil _ _ _, belowT G1.out HB4.out⟩
    · obtain ⟨rfl, hb4, c, ho, hi⟩ := h1 rfl
      obtain ⟨e1, rfl⟩ := handI_end HMm.out (by rw [HLA.out, HL.out]) hi
      have HF := Lib.hid e1
      have HB4 := Lib.hid hb4
      have HO := Lib.hid ho
      clear h1 h2 hb4 ho hi e1
      go_wp2_with fail
      go_ret2
      exact ⟨_, by rw [HF.out]; first | done | rfl, ownE_base HO.out G1.out.size, belowT G1.out HB4.out⟩
/-- Sub. -/
theorem weightSub (s : SlV) (v : Value) (l : List Nd) (a : List UInt64) (w : World) (h : SlE Ene w (sv s) l) (h' : SlE Enum w v a) :
    Calls Try.prog 26 #[.agg (tr ⟨s⟩), v] w (NumsOk (subL l a) (subOk l a) w) := by
  have k := h'
  have hs := sv_lenN h
  obtain ⟨q, cq, rfl, _⟩ := slE_shape h'
  obtain ⟨p, n, cp⟩ := s
  dsimp only at hs
  subst hs
  by_cases hk : MayT l ∧ a.length = l.length
  · rw [hk.2] at k ⊢
    exact weightSub_yes p q _ cp cq l a w h k rfl hk.2 hk.1
  · have e : subOk l a = false := by
      rw [← Bool.not_eq_true]
      intro e
      obtain ⟨h1, h2, _⟩ := subOk_iff.1 e
      exact hk ⟨h1, h2⟩
    rw [subL_no e, e]
    exact weightSub_no p q _ cp _ cq l w h hk
theorem subC : SubC := fun s v l a w h h' => (weightSub s v l a w h h').mono fun _ _ k => k.is
theorem enters_weightSub : ∀ args w, (callFunc 26 args).run Try.prog w = .ok (.enter 26 args) w := entersE Try.func26 (by kernel_rfl) (by kernel_rfl)
end Go.Proofs.Ytccihllcohnnnaa
namespace Go.Proofs.Ytccihllcohnnnaa
open Go.RowKit
set_option maxRecDepth 100000

set_option maxRecDepth 100000 in
set_option maxHeartbeats 8000000 in
theorem progPass_n (p r1 : Option Addr) (v2 v3 : Value) (n cp m c1 : Nat) (l : List Nd) (a pl mi : List UInt64) (w : World) (h : SlE Ene w (.slice p n cp) l) (h1 : SlE Enum w (.slice r1 m c1) a) (h2 : SlE Enum w v2 pl) (h3 : SlE Enum w v3 mi) (hl : l.length = n) (ha : a.length = m) :
    Calls Try.prog 17 #[.agg (tr ⟨⟨p, n, cp⟩⟩), .slice r1 m c1, v2, v3] w (NumsOk (passL l a pl mi) (passOk l a pl mi) w) := by
  have HP := Lib.hid (fun W (g : Below w.heap.size w W) => weightSub ⟨p, n, cp⟩ v2 l pl W (slE_keep g h) (slE_keep g h2))
  have HQ := Lib.hid (fun W (g : Below w.heap.size w W) => weightSub ⟨p, n, cp⟩ v3 l mi W (slE_keep g h) (slE_keep g h3))
  obtain ⟨A, hA⟩ : ∃ A, A = subOk l pl := ⟨_, rfl⟩
  obtain ⟨B, hB⟩ : ∃ B, B = subOk l mi := ⟨_, rfl⟩
  rw [← hA] at HP
  rw [← hB] at HQ
  have KA := Lib.hid hA
  have KB := Lib.hid hB
  obtain ⟨W0, hW0⟩ : ∃ W0, W0 = w.alloc (.cells (tr ⟨⟨p, n, cp⟩⟩) 24) := ⟨_, rfl⟩
  have G0 : Hid (Below w.heap.size w W0) := by rw [hW0]; exact below1
  have M0 : Hid (W0.heap[w.heap.size]? = some (.cells (tr ⟨⟨p, n, cp⟩⟩) 24 (0, 0))) := by rw [hW0]; exact heap_alloc_last w _
  have HW := Lib.hid hW0
  have HL := Lib.hid hl
  have HA := Lib.hid ha
  have HS1 := Lib.hid h1
  obtain ⟨res, hres⟩ : ∃ res, res = passOk l a pl mi := ⟨_, rfl⟩
  have HR := Lib.hid hres
  rw [← hres]
  clear h h1 h2 h3 hl ha hA hB hW0 hres
  go_enter Try.func17, Try.ntmps17
  go_wp2_with fail
  rw [← HW.out]
  obtain ⟨z0, z1, zl⟩ := tr_cells M0.out
  refine (HP.out W0 G0.out).mono ?_
  rintro e w1 ⟨vp, rfl, hp, g1⟩
  have G1 := Lib.hid (belowT G0.out g1)
  have M1 := Lib.hid (blk_keep g1 M0.out)
  have P1 := Lib.hid (ownE_slE hp)
  clear z0 z1 zl hp g1
  obtain ⟨z0, z1, zl⟩ := tr_cells M1.out
  go_wp2_with fail
  refine (HQ.out w1 G1.out).mono ?_
  rintro e w2 ⟨vq, rfl, hq, g2⟩
  have G2 := Lib.hid (belowT G1.out g2)
  have M2 := Lib.hid (blk_keep g2 M1.out)
  have P2 := Lib.hid (slE_keep g2 P1.out)
  have Q2 := Lib.hid (ownE_slE hq)
  clear z0 z1 zl hq g2 P1
  obtain ⟨z0, z1, zl⟩ := tr_cells M2.out
  dsimp only at z0
  rw [sv_mk] at z0
  cases A
  · have hF : Hid (res = false) := by show res = false; rw [HR.out, ← Bool.not_eq_true]; intro e; have := (passOk_iff.1 e).1; rw [← KA.out] at this; exact Bool.false_ne_true this
    go_wp2_with fail
    go_ret2
    exact ⟨_, by rw [hF.out]; first | done | rfl, by rw [passL_no (by rw [← HR.out]; exact hF.out)]; exact ownE_nil _ _ _, G2.out⟩
  · cases B
    · have hF : Hid (res = false) := by show res = false; rw [HR.out, ← Bool.not_eq_true]; intro e; have := (passOk_iff.1 e).2.1; rw [← KB.out] at this; exact Bool.false_ne_true this
      go_wp2_with fail
      go_ret2
      exact ⟨_, by rw [hF.out]; first | done | rfl, by rw [passL_no (by rw [← HR.out]; exact hF.out)]; exact ownE_nil _ _ _, G2.out⟩
    · by_cases hm : m = n
      · subst hm
        have t1 : ((m : Int) != (m : Int)) = false := by simp
        have hpos : 0 < m := by have := (subOk_iff.1 KA.out.symm).1.pos; have := HL.out; omega
        have HLP : Hid ((subL l pl).length = m) := by show _ = m; rw [subL_len KA.out.symm, HL.out]
        have HLQ : Hid ((subL l mi).length = m) := by show _ = m; rw [subL_len KB.out.symm, HL.out]
        have HN : Hid (m ≤ 12 ∧ 0 < m) := ⟨by have := (subOk_iff.1 KA.out.symm).1.le; have := HL.out; omega, hpos⟩
        obtain ⟨pp, cpp, rfl⟩ := slE_len P2.out HLP.out
        obtain ⟨pq, cqq, rfl⟩ := slE_len Q2.out HLQ.out
        obtain ⟨b1, o1, rfl, _, _⟩ := nums_ptr P2.out (by rw [HLP.out]; exact hpos)
        obtain ⟨b2, o2, rfl, _, _⟩ := nums_ptr Q2.out (by rw [HLQ.out]; exact hpos)
        have HC := Lib.hid (cloneNum (.slice r1 m c1) a w2 (slE_keep G2.out HS1.out) (by have := HA.out; have := HN.out.1; omega))
        clear hpos
        go_wp2_with fail
        refine HC.out.mono ?_
        rintro e w3 ⟨v3', rfl, ho, g3⟩
        obtain ⟨gc, cap, rfl, hgc⟩ := ownN_form ho HA.out HN.out.2
        have G3 := Lib.hid g3
        have O3 := Lib.hid ho
        clear ho g3 hgc
        go_wp2_with fail
        refine (backPass (.agg (ch ⟨⟨some ⟨gc, 0, none⟩, m, cap⟩, ⟨some ⟨b1, o1, none⟩, m, cpp⟩, ⟨some ⟨b2, o2, none⟩, m, cqq⟩⟩)) (some ⟨gc, 0, none⟩) m cap _ (PassM w2 gc m cap a (subL l pl) (subL l mi)) (fun W => (∃ i, i < m ∧ oneOk (fn a i) (fn (subL l pl) i) (fn (subL l mi) i) = false) ∧ Below w2.heap.size w2 W) (by have := HN.out.1; omega)
          (fun j W hj hr => ?_) ⟨belowT G3.out below1, a, ownE_alloc O3.out _, passI_start HA.out⟩).mono ?_
        · by_cases hle : fn (subL l mi) j ≤ fn (subL l pl) j
          · exact (passAt_rise b1 o1 m cpp b2 o2 m cqq gc m cap a (subL l pl) (subL l mi) j w2 W P2.out Q2.out rfl rfl hr hj hle).mono fun e w' ⟨ok, h1, h2, h3⟩ => ⟨ok, h1, h2, fun e => ⟨⟨j, hj, (h3 e).1⟩, (h3 e).2⟩⟩
          · exact (passAt_fall b1 o1 m cpp b2 o2 m cqq gc m cap a (subL l pl) (subL l mi) j w2 W P2.out Q2.out rfl rfl hr hj hle).mono fun e w' ⟨ok, h1, h2, h3⟩ => ⟨ok, h1, h2, fun e => ⟨⟨j, hj, (h3 e).1⟩, (h3 e).2⟩⟩
        · rintro e w4 ⟨v, ok, rfl, h1, h2⟩
          cases ok
          · obtain ⟨rfl, ⟨i, hi, h3⟩, h4⟩ := h2 rfl
            have hF : Hid (res = false) := by show res = false; rw [HR.out]; exact pass_not KA.out.symm KB.out.symm (by rw [HL.out]; exact hi) h3
            have HB4 := Lib.hid h4
            clear h1 h2 h3 h4 hi
            go_wp2_with fail
            go_ret2
            exact ⟨_, by rw [hF.out]; first | done | rfl, by rw [passL_no (by rw [← HR.out]; exact hF.out)]; exact ownE_nil _ _ _, belowT G2.out HB4.out⟩
          · obtain ⟨rfl, hb4, c, ho, hi⟩ := h1 rfl
            rw [← HL.out] at hi
            obtain ⟨e1, rfl⟩ := passI_end KA.out.symm KB.out.symm (by rw [HA.out, HL.out]) hi
            have hF : Hid (res = true) := by show res = true; rw [HR.out]; exact e1
            have HB4 := Lib.hid hb4
            have HO := Lib.hid ho
            clear h1 h2 hb4 ho hi e1
            go_wp2_with fail
            go_ret2
            exact ⟨_, by rw [hF.out]; first | done | rfl, ownE_base HO.out G2.out.size, belowT G2.out HB4.out⟩
      · have hF : Hid (res = false) := by show res = false; rw [HR.out, ← Bool.not_eq_true]; intro e; have := (passOk_iff.1 e).2.2.1; rw [HA.out, HL.out] at this; exact hm this
        have t1 : ((m : Int) != (n : Int)) = true := by rw [bne_iff_ne]; omega
        clear hm
        go_wp2_with fail
        go_ret2
        exact ⟨_, by rw [hF.out]; first | done | rfl, by rw [passL_no (by rw [← HR.out]; exact hF.out)]; exact ownE_nil _ _ _, G2.out⟩
theorem progPass (s : SlV) (v1 v2 v3 : Value) (l : List Nd) (a pl mi : List UInt64) (w : World) (h : SlE Ene w (sv s) l) (h1 : SlE Enum w v1 a) (h2 : SlE Enum w v2 pl) (h3 : SlE Enum w v3 mi) :
    Calls Try.prog 17 #[.agg (tr ⟨s⟩), v1, v2, v3] w (NumsOk (passL l a pl mi) (passOk l a pl mi) w) := by
  have k := h1
  have hs := sv_lenN h
  obtain ⟨r1, c1, rfl, _⟩ := slE_shape h1
  obtain ⟨p, n, cp⟩ := s
  dsimp only at hs
  exact progPass_n p r1 v2 v3 n cp _ c1 l a pl mi w h k h2 h3 hs rfl
theorem passC : PassC := fun s v1 v2 v3 l a b c w h h1 h2 h3 => (progPass s v1 v2 v3 l a b c w h h1 h2 h3).mono fun _ _ k => k.is
theorem enters_weightPass : ∀ args w, (callFunc 17 args).run Try.prog w = .ok (.enter 17 args) w := entersE Try.func17 (by kernel_rfl) (by kernel_rfl)
end Go.Proofs.Ytccihllcohnnnaa
