/-
  Package view: From, walked.
-/
import Derived.Test.YtanoijcgkacnmaaGQ
import Derived.Test.YtanoijcgkacnmaaW10
namespace Go.Proofs.Ytanoijcgkacnmaa
open Go.RowKit

set_option maxRecDepth 100000 in
set_option maxHeartbeats 4000000 in
theorem fromC_n (p : Option Addr) (n cp : Nat) (l : List Nd) (r : Rt) (f : Int) (w : World) (h : SlE Ene w (.slice p n cp) l) (hl : l.length = n) :
    Calls Try.prog 15 #[.agg (tr ⟨⟨p, n, cp⟩⟩), .agg (rc r), .int .i64 f] w fun e w' => e = .returned (.int .i64 (fromT l r f)) ∧ Below w.heap.size w w' := by
  have HM := Lib.hid (fun W (g : Below w.heap.size w W) => treeMay ⟨p, n, cp⟩ l W (slE_keep g h))
  have HF := Lib.hid (fun W (g : Below w.heap.size w W) => treeFind ⟨p, n, cp⟩ l r W (slE_keep g h))
  have HA := Lib.hid (fun (k : Int) W (g : Below w.heap.size w W) => treeAbove ⟨p, n, cp⟩ l f k W (slE_keep g h))
  obtain ⟨res, hres⟩ : ∃ res, res = fromT l r f := ⟨_, rfl⟩
  rw [← hres]
  have HR := Lib.hid hres
  obtain ⟨a, ha⟩ : ∃ a, a = decide (MayT l) := ⟨_, rfl⟩
  rw [← ha] at HM
  have HAa := Lib.hid ha
  have HL := Lib.hid hl
  obtain ⟨W0, hW0⟩ : ∃ W0, W0 = (w.alloc (.cells (tr ⟨⟨p, n, cp⟩⟩) 24)).alloc (.cells (rc r) 27) := ⟨_, rfl⟩
  obtain ⟨hB, h0, h1, hz⟩ := heap2 w _ _ _ _ W0 hW0
  have HB := Lib.hid hB
  have H0 := Lib.hid h0
  have H1 := Lib.hid h1
  have HW := Lib.hid hW0
  clear h hl hW0 hB h0 h1 hz ha hres
  go_enter Try.func15, Try.ntmps15
  go_wp2_with fail
  rw [← HW.out]
  refine (HM.out W0 HB.out).mono ?_
  rintro e w1 ⟨rfl, g1⟩
  have G1 := Lib.hid (belowT HB.out g1)
  have N0 := Lib.hid (blk_keep g1 H0.out)
  have N1 := Lib.hid (blk_keep g1 H1.out)
  clear g1
  cases a
  · have hX : Hid (res = -1) := by
      show _ = _
      rw [HR.out]
      refine if_neg ?_
      rw [isT_iff]
      exact fun e => of_decide_eq_false HAa.out.symm e.1
    go_wp2_with fail
    go_ret
    exact ⟨by rw [hX.out]; first | done | rfl, G1.out⟩
  · have HMl := Lib.hid (of_decide_eq_true HAa.out.symm)
    obtain ⟨z0, z1, zl⟩ := tr_cells N0.out
    dsimp only at z0
    rw [sv_mk] at z0
    have zr := ldA_block N1.out (rc_size r)
    by_cases h0 : f < 0
    · have t0 : decide (f < 0) = true := decide_eq_true h0
      have hX : Hid (res = -1) := by
        show _ = _
        rw [HR.out]
        refine if_neg ?_
        rw [isT_iff]
        exact fun e => by omega
      clear h0
      go_wp2_with fail
      go_ret
      exact ⟨by rw [hX.out]; first | done | rfl, G1.out⟩
    · have t0 : decide (f < 0) = false := decide_eq_false h0
      by_cases h1 : (n : Int) ≤ f
      · have t1 : decide ((n : Int) ≤ f) = true := decide_eq_true h1
        have hX : Hid (res = -1) := by
          show _ = _
          rw [HR.out]
          refine if_neg ?_
          rw [isT_iff]
          have := HL.out
          exact fun e => by omega
        clear h0 h1
        go_wp2_with fail
        go_ret
        exact ⟨by rw [hX.out]; first | done | rfl, G1.out⟩
      · have t1 : decide ((n : Int) ≤ f) = false := decide_eq_false h1
        have HIs : Hid (isT l f = true) := isT_iff.2 ⟨HMl.out, by omega, by have := HL.out; omega⟩
        clear h0 h1
        go_wp2_with fail
        refine (HF.out w1 G1.out).mono ?_
        rintro e w2 ⟨rfl, g2⟩
        have G2 := Lib.hid (belowT G1.out g2)
        obtain ⟨z2, z3, zl2⟩ := tr_cells (blk_keep g2 N0.out)
        clear g2 z0 z1 zl zr z2 zl2
        obtain ⟨k, hk⟩ : ∃ k, k = findT l r := ⟨_, rfl⟩
        rw [← hk]
        have HAk := Lib.hid (HA.out k w2 G2.out)
        obtain ⟨q, hq⟩ : ∃ q, q = aboveZ l f k := ⟨_, rfl⟩
        rw [← hq] at HAk
        have hX : Hid (res = if q = true then k else f) := by
          show _ = _
          rw [HR.out, hq, hk]
          exact if_pos HIs.out
        clear hk hq
        go_wp2_with fail
        refine HAk.out.mono ?_
        rintro e w3 ⟨rfl, g3⟩
        have G3 := Lib.hid (belowT G2.out g3)
        clear g3 z3
        cases q
        · go_wp2_with fail
          go_ret
          exact ⟨by rw [hX.out]; first | done | rfl, G3.out⟩
        · go_wp2_with fail
          go_ret
          exact ⟨by rw [hX.out]; first | done | rfl, G3.out⟩
theorem fromC : FromC := by
  intro s l r f w h
  have hl := sv_lenN h
  obtain ⟨p, n, cp⟩ := s
  exact fromC_n p n cp l r f w h hl
end Go.Proofs.Ytanoijcgkacnmaa
