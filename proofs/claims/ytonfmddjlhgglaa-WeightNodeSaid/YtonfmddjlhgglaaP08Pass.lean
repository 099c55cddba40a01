/-
  Package weight: Pass, Same, walked.
-/
import Derived.Test.YtonfmddjlhgglaaP08BackP
import Derived.Test.YtonfmddjlhgglaaP08Sub
import Derived.Test.YtonfmddjlhgglaaEqualN
namespace Go.Proofs.Ytonfmddjlhgglaa
open Go.RowKit

set_option maxRecDepth 100000 in
set_option maxHeartbeats 8000000 in
theorem progPass_n (p r1 : Option Addr) (v2 v3 : Value) (n cp m c1 : Nat) (l : List Nd) (a pl mi : List UInt64) (w : World) (h : SlE Ene w (.slice p n cp) l) (h1 : SlE Enum w (.slice r1 m c1) a) (h2 : SlE Enum w v2 pl) (h3 : SlE Enum w v3 mi) (hl : l.length = n) (ha : a.length = m) :
    Calls Try.prog 12 #[.agg (tr ⟨⟨p, n, cp⟩⟩), .slice r1 m c1, v2, v3] w (NumsOk (passL l a pl mi) (passOk l a pl mi) w) := by
  have HP := Lib.hid (fun W (g : Below w.heap.size w W) => weightSub ⟨p, n, cp⟩ v2 l pl W (slE_keep g h) (slE_keep g h2))
  have HQ := Lib.hid (fun W (g : Below w.heap.size w W) => weightSub ⟨p, n, cp⟩ v3 l mi W (slE_keep g h) (slE_keep g h3))
  obtain ⟨A, hA⟩ : ∃ A, A = subOk l pl := ⟨_, rfl⟩
  obtain ⟨B, hB⟩ : ∃ B, B = subOk l mi := ⟨_, rfl⟩
  rw [← hA] at HP
  rw [← hB] at HQ
  have KA := Lib.hid hA
  have KB := Lib.hid hB
  obtain ⟨W0, hW0⟩ : ∃ W0, W0 = w.alloc (.cells (tr ⟨⟨p, n, cp⟩⟩) 24) := ⟨_, rfl⟩
  have G0 : Hid (Below w.heap.size w W0) := by rw [hW0]; exact below1
  have M0 : Hid (W0.heap[w.heap.size]? = some (.cells (tr ⟨⟨p, n, cp⟩⟩) 24 (0, 0))) := by rw [hW0]; exact heap_alloc_last w _
  have HW := Lib.hid hW0
  have HL := Lib.hid hl
  have HA := Lib.hid ha
  have HS1 := Lib.hid h1
  obtain ⟨res, hres⟩ : ∃ res, res = passOk l a pl mi := ⟨_, rfl⟩
  have HR := Lib.hid hres
  rw [← hres]
  clear h h1 h2 h3 hl ha hA hB hW0 hres
  go_enter Try.func12, Try.ntmps12
  go_wp2_with fail
  rw [← HW.out]
  obtain ⟨z0, z1, zl⟩ := tr_cells M0.out
  refine (HP.out W0 G0.out).mono ?_
  rintro e w1 ⟨vp, rfl, hp, g1⟩
  have G1 := Lib.hid (belowT G0.out g1)
  have M1 := Lib.hid (blk_keep g1 M0.out)
  have P1 := Lib.hid (ownE_slE hp)
  clear z0 z1 zl hp g1
  obtain ⟨z0, z1, zl⟩ := tr_cells M1.out
  go_wp2_with fail
  refine (HQ.out w1 G1.out).mono ?_
  rintro e w2 ⟨vq, rfl, hq, g2⟩
  have G2 := Lib.hid (belowT G1.out g2)
  have M2 := Lib.hid (blk_keep g2 M1.out)
  have P2 := Lib.hid (slE_keep g2 P1.out)
  have Q2 := Lib.hid (ownE_slE hq)
  clear z0 z1 zl hq g2 P1
  obtain ⟨z0, z1, zl⟩ := tr_cells M2.out
  dsimp only at z0
  rw [sv_mk] at z0
  cases A
  · have hF : Hid (res = false) := by show res = false; rw [HR.out, ← Bool.not_eq_true]; intro e; have := (passOk_iff.1 e).1; rw [← KA.out] at this; exact Bool.false_ne_true this
    go_wp2_with fail
    go_ret2
    exact ⟨_, by rw [hF.out]; first | done | rfl, by rw [passL_no (by rw [← HR.out]; exact hF.out)]; exact ownE_nil _ _ _, G2.out⟩
  · cases B
    · have hF : Hid (res = false) := by show res = false; rw [HR.out, ← Bool.not_eq_true]; intro e; have := (passOk_iff.1 e).2.1; rw [← KB.out] at this; exact Bool.false_ne_true this
      go_wp2_with fail
      go_ret2
      exact ⟨_, by rw [hF.out]; first | done | rfl, by rw [passL_no (by rw [← HR.out]; exact hF.out)]; exact ownE_nil _ _ _, G2.out⟩
    · by_cases hm : m = n
      · subst hm
        have t1 : ((m : Int) != (m : Int)) = false := by simp
        have hpos : 0 < m := by have := (subOk_iff.1 KA.out.symm).1.pos; have := HL.out; omega
        have HLP : Hid ((subL l pl).length = m) := by show _ = m; rw [subL_len KA.out.symm, HL.out]
        have HLQ : Hid ((subL l mi).length = m) := by show _ = m; rw [subL_len KB.out.symm, HL.out]
        have HN : Hid (m ≤ 12 ∧ 0 < m) := ⟨by have := (subOk_iff.1 KA.out.symm).1.le; have := HL.out; omega, hpos⟩
        obtain ⟨pp, cpp, rfl⟩ := slE_len P2.out HLP.out
        obtain ⟨pq, cqq, rfl⟩ := slE_len Q2.out HLQ.out
        obtain ⟨b1, o1, rfl, _, _⟩ := nums_ptr P2.out (by rw [HLP.out]; exact hpos)
        obtain ⟨b2, o2, rfl, _, _⟩ := nums_ptr Q2.out (by rw [HLQ.out]; exact hpos)
        have HC := Lib.hid (cloneNum (.slice r1 m c1) a w2 (slE_keep G2.out HS1.out) (by have := HA.out; have := HN.out.1; omega))
        clear hpos
        go_wp2_with fail
        refine HC.out.mono ?_
        rintro e w3 ⟨v3', rfl, ho, g3⟩
        obtain ⟨gc, cap, rfl, hgc⟩ := ownN_form ho HA.out HN.out.2
        have G3 := Lib.hid g3
        have O3 := Lib.hid ho
        clear ho g3 hgc
        go_wp2_with fail
        refine (backPass (.agg (ch ⟨⟨some ⟨gc, 0, none⟩, m, cap⟩, ⟨some ⟨b1, o1, none⟩, m, cpp⟩, ⟨some ⟨b2, o2, none⟩, m, cqq⟩⟩)) (some ⟨gc, 0, none⟩) m cap _ (PassM w2 gc m cap a (subL l pl) (subL l mi)) (fun W => (∃ i, i < m ∧ oneOk (fn a i) (fn (subL l pl) i) (fn (subL l mi) i) = false) ∧ Below w2.heap.size w2 W) (by have := HN.out.1; omega)
          (fun j W hj hr => ?_) ⟨belowT G3.out below1, a, ownE_alloc O3.out _, passI_start HA.out⟩).mono ?_
        · by_cases hle : fn (subL l mi) j ≤ fn (subL l pl) j
          · exact (passAt_rise b1 o1 m cpp b2 o2 m cqq gc m cap a (subL l pl) (subL l mi) j w2 W P2.out Q2.out rfl rfl hr hj hle).mono fun e w' ⟨ok, h1, h2, h3⟩ => ⟨ok, h1, h2, fun e => ⟨⟨j, hj, (h3 e).1⟩, (h3 e).2⟩⟩
          · exact (passAt_fall b1 o1 m cpp b2 o2 m cqq gc m cap a (subL l pl) (subL l mi) j w2 W P2.out Q2.out rfl rfl hr hj hle).mono fun e w' ⟨ok, h1, h2, h3⟩ => ⟨ok, h1, h2, fun e => ⟨⟨j, hj, (h3 e).1⟩, (h3 e).2⟩⟩
        · rintro e w4 ⟨v, ok, rfl, h1, h2⟩
          cases ok
          · obtain ⟨rfl, ⟨i, hi, h3⟩, h4⟩ := h2 rfl
            have hF : Hid (res = false) := by show res = false; rw [HR.out]; exact pass_not KA.out.symm KB.out.symm (by rw [HL.out]; exact hi) h3
            have HB4 := Lib.hid h4
            clear h1 h2 h3 h4 hi
            go_wp2_with fail
            go_ret2
            exact ⟨_, by rw [hF.out]; first | done | rfl, by rw [passL_no (by rw [← HR.out]; exact hF.out)]; exact ownE_nil _ _ _, belowT G2.out HB4.out⟩
          · obtain ⟨rfl, hb4, c, ho, hi⟩ := h1 rfl
            rw [← HL.out] at hi
            obtain ⟨e1, rfl⟩ := passI_end KA.out.symm KB.out.symm (by rw [HA.out, HL.out]) hi
            have hF : Hid (res = true) := by show res = true; rw [HR.out]; exact e1
            have HB4 := Lib.hid hb4
            have HO := Lib.hid ho
            clear h1 h2 hb4 ho hi e1
            go_wp2_with fail
            go_ret2
            exact ⟨_, by rw [hF.out]; first | done | rfl, ownE_base HO.out G2.out.size, belowT G2.out HB4.out⟩
      · have hF : Hid (res = false) := by show res = false; rw [HR.out, ← Bool.not_eq_true]; intro e; have := (passOk_iff.1 e).2.2.1; rw [HA.out, HL.out] at this; exact hm this
        have t1 : ((m : Int) != (n : Int)) = true := by rw [bne_iff_ne]; omega
        clear hm
        go_wp2_with fail
        go_ret2
        exact ⟨_, by rw [hF.out]; first | done | rfl, by rw [passL_no (by rw [← HR.out]; exact hF.out)]; exact ownE_nil _ _ _, G2.out⟩
theorem progPass (s : SlV) (v1 v2 v3 : Value) (l : List Nd) (a pl mi : List UInt64) (w : World) (h : SlE Ene w (sv s) l) (h1 : SlE Enum w v1 a) (h2 : SlE Enum w v2 pl) (h3 : SlE Enum w v3 mi) :
    Calls Try.prog 12 #[.agg (tr ⟨s⟩), v1, v2, v3] w (NumsOk (passL l a pl mi) (passOk l a pl mi) w) := by
  have k := h1
  have hs := sv_lenN h
  obtain ⟨r1, c1, rfl, _⟩ := slE_shape h1
  obtain ⟨p, n, cp⟩ := s
  dsimp only at hs
  exact progPass_n p r1 v2 v3 n cp _ c1 l a pl mi w h k h2 h3 hs rfl
theorem passC : PassC := fun s v1 v2 v3 l a b c w h h1 h2 h3 => (progPass s v1 v2 v3 l a b c w h h1 h2 h3).mono fun _ _ k => k.is
theorem enters_weightPass : ∀ args w, (callFunc 12 args).run Try.prog w = .ok (.enter 12 args) w := entersE Try.func12 (by kernel_rfl) (by kernel_rfl)

set_option maxHeartbeats 1000000 in
/-- Same. -/
theorem weightSame (v u : Value) (a b : List UInt64) (w : World) (h : SlE Enum w v a) (h' : SlE Enum w u b) (hn : a.length ≤ 1000) :
    Calls Try.prog 15 #[v, u] w fun e w' => e = .returned (.bool (decide (a = b))) ∧ Below w.heap.size w w' := by
  have HE := Lib.hid (equalNum v u a b w h h' hn)
  obtain ⟨r, hr⟩ : ∃ r, r = decide (a = b) := ⟨_, rfl⟩
  rw [← hr] at HE
  rw [← hr]
  clear h h' hn hr
  go_enter Try.func15, Try.ntmps15
  go_wp2_with fail
  refine HE.out.mono ?_
  rintro e w1 ⟨rfl, g⟩
  go_wp2_with fail
  go_ret
  exact ⟨rfl, g⟩
theorem sameC : SameC := weightSame
theorem enters_weightSame : ∀ args w, (callFunc 15 args).run Try.prog w = .ok (.enter 15 args) w := entersE Try.func15 (by kernel_rfl) (by kernel_rfl)
end Go.Proofs.Ytonfmddjlhgglaa
