/-
  The law VoteLater, walked. (written by wip/gen/law12.py)
-/
import Derived.Test.YtfmbgpjpkahmnaaW12
import Derived.Test.YtfmbgpjpkahmnaaVoteQ
namespace Go.Proofs.Ytfmbgpjpkahmnaa
open Go.RowKit

theorem lats_epoch {w : World} {b off : Nat} {l : List Lt} (h : w.rangeAt b off (cellsE Elt l)) {i : Nat} (hi : i < l.length) : w.cell? ⟨b, off + i * 34 + 33, none⟩ = some (.int .u64 ((lat l i).epoch.toNat : Int)) := by
  have := lt_rd_epoch (range_at h hi)
  rw [lat_in hi]
  exact this

set_option maxRecDepth 100000 in
set_option maxHeartbeats 8000000 in
theorem voteLater_n (H : VoteC) (pv : Option Addr) (nv cv : Nat) (v : Vt) (val : Int) (r : Rt) (ep : UInt64) (w : World) (hv : SlE Elt w (.slice pv nv cv) v.l) (lv : v.l.length = nv) :
    Calls Try.prog 8 #[.agg (vo ⟨⟨pv, nv, cv⟩, v.out⟩), .int .i64 val, .agg (rc r), .int .u64 (ep.toNat : Int)] w fun e w' => e = .returned (.bool true) ∧ Below w.heap.size w w' := by
  obtain ⟨W0, hW0⟩ : ∃ W0, W0 = ((w.alloc (.cells (vo ⟨⟨pv, nv, cv⟩, v.out⟩) 25)).alloc (.cells (rc r) 27)) := ⟨_, rfl⟩
  obtain ⟨hB, b0, b1, _⟩ := heap2 w _ _ _ _ W0 hW0
  have Av : Hid (Vw w W0 (w.heap.size) ⟨pv, nv, cv⟩ v) := ⟨b0, slE_keep hB hv, hB⟩
  have M : Hid (W0.heap[w.heap.size + 1]? = some (.cells (rc r) 27 (0, 0))) := b1
  have Lv := Lib.hid lv
  have HW := Lib.hid hW0
  have HAw := Lib.hid (fun W => awake_any12 H W)
  have HH := Lib.hid H
  clear hW0 H hB b0 b1 hv lv
  go_enter Try.func8, Try.ntmps8
  go_wp2_with fail
  rw [← HW.out]
  refine (HAw.out _).mono ?_
  rintro e w1 ⟨rfl, g⟩
  replace Av := Lib.hid (Av.out.keep g)
  replace M := Lib.hid (blk_keep g M.out)
  clear g
  have HM := Lib.hid (fun s W (h : SlE Elt W (sv s) v.l) => HH.out.may s v W h)
  obtain ⟨mv, hmv⟩ : ∃ b, b = mayV v := ⟨_, rfl⟩
  rw [← hmv] at HM
  have HMv := Lib.hid hmv
  clear hmv
  have z1v := Av.out.z1
  have z0v := Av.out.z0
  rw [sv_mk] at z0v
  go_wp2_with fail
  refine (HM.out _ _ Av.out.s).mono ?_
  rintro e w2 ⟨rfl, g⟩
  clear z1v z0v
  replace Av := Lib.hid (Av.out.keep g)
  replace M := Lib.hid (blk_keep g M.out)
  clear g
  have z1v := Av.out.z1
  have z0v := Av.out.z0
  rw [sv_mk] at z0v
  cases mv
  · skip
    go_wp2_with fail
    go_ret
    exact ⟨rfl, Av.out.g⟩
  have m1 : Hid (mayV v = true) := HMv.out.symm
  by_cases hval : val < 0
  · have hvali : decide (val < 0) = true := decide_eq_true (hval)
    clear hval
    go_wp2_with fail
    go_ret
    exact ⟨rfl, Av.out.g⟩
  have hvali : decide (val < 0) = false := decide_eq_false (hval)
  by_cases gval : (nv : Int) ≤ val
  · have gvali : decide ((nv : Int) ≤ val) = true := decide_eq_true (gval)
    clear gval
    go_wp2_with fail
    go_ret
    exact ⟨rfl, Av.out.g⟩
  have gvali : decide ((nv : Int) ≤ val) = false := decide_eq_false (gval)
  obtain ⟨j, rfl⟩ : ∃ j' : Nat, val = j' := ⟨val.toNat, by omega⟩
  have j0 : (0 : Int) ≤ (j : Int) := by omega
  have j1 : (j : Int) < (nv : Int) := by omega
  have Hj : Hid (j < nv) := by show _ < _; omega
  have qj : decide (nv ≤ j) = false := decide_eq_false (by omega)
  clear hval gval
  have h8 : v.l.length ≤ 8 := (mayV_iff.1 m1.out).2.1
  have H8 := Lib.hid h8
  obtain ⟨e1, e2, e3⟩ := put_step (v := v) (z := (j : Int)) (r := r) (ep := ep) m1.out ⟨j0, by rw [Lv.out]; exact j1⟩
  rw [Int.toNat_natCast] at e1 e2
  have hj : j < v.l.length := by rw [Lv.out]; exact Hj.out
  have hlen := step_len (v := v) (i := j) (r := r) (ep := ep)
  have HP1 := Lib.hid (fun s W (h : SlE Elt W (sv s) v.l) => HH.out.put s v (j : Int) r ep W h (by omega))
  rw [e1, e2, e3] at HP1
  have HS2 := Lib.hid (fun s s' W (h : SlE Elt W (sv s) (stepV v j r ep).l) (h' : SlE Elt W (sv s') v.l) => ref12Same s s' (stepV v j r ep) v W h h' (by omega))
  obtain ⟨ob, hob⟩ : ∃ b, b = hasB v.out j := ⟨_, rfl⟩
  have HK : Hid (fateV v j r ep = 1 ↔ ((lat v.l j).has = false ∨ (lat v.l j).epoch.toNat < ep.toNat) ∧ ob = false) := by rw [hob]; exact taken_iff
  have HSm : Hid (ob = true ∨ (lat v.l j).has = true ∧ ep.toNat < (lat v.l j).epoch.toNat → stepV v j r ep = v) := by rw [hob]; exact less_same
  have h64 : j < 64 := by omega
  obtain ⟨P, hP⟩ : ∃ P : Nat → Nat, P = fun j => 2 ^ j := ⟨_, rfl⟩
  have HP0 : Hid (P 0 = 1) := by show P 0 = 1; rw [hP]
  have HPs : Hid (∀ j, P (j + 1) = 2 * P j) := fun j => by rw [hP]; show 2 ^ (j + 1) = 2 * 2 ^ j; rw [Nat.pow_succ, Nat.mul_comm]
  have HPl : Hid (∀ j, j < 64 → P j < 18446744073709551616) := fun j hj => by rw [hP]; have : 2 ^ j ≤ 2 ^ 63 := Nat.pow_le_pow_right (by omega) (by omega); show 2 ^ j < _; omega
  have hpos : 0 < P j := by rw [hP]; exact Nat.two_pow_pos j
  have hdiv : ob = decide (v.out.toNat / P j % 2 = 1) := by rw [hob, hP]; exact has_div v.out j
  obtain ⟨m, hm⟩ : ∃ m, m = v.out.toNat := ⟨_, rfl⟩
  have hml : m < 18446744073709551616 := by rw [hm]; exact v.out.toNat_lt
  rw [← hm] at hdiv
  have HMm := Lib.hid hm
  obtain ⟨q, hq⟩ : ∃ q, q = m / P j := ⟨_, rfl⟩
  rw [← hq] at hdiv
  have hql : q < 18446744073709551616 := by rw [hq]; exact Nat.lt_of_le_of_lt (Nat.div_le_self _ _) hml
  have HQ : Hid ((m : Int) / (P j : Int) = (q : Int)) := by show _ = _; rw [hq]; exact (Int.natCast_ediv m (P j)).symm
  have HQl := Lib.hid hql
  have Hpos := Lib.hid hpos
  have HQ2 : Hid (((q : Int) % 2 == 1) = ob) := by show _ = _; rw [hdiv, Bool.eq_iff_iff, beq_iff_eq, decide_eq_true_iff]; omega
  have H64 := Lib.hid h64
  rw [Lv.out] at hlen
  have HXl := Lib.hid hlen
  generalize stepV v j r ep = X at *
  generalize fateV v j r ep = K at *
  clear e1 e2 e3 hj hlen h8 hob h64 hP hpos hdiv hm hml hq hql
  have zr := ldA_block M.out (rc_size _)
  go_wp2_with fail
  refine (HP1.out _ _ Av.out.s).mono ?_
  rintro e w3 ⟨sx, rfl, hs, g⟩
  clear z1v z0v
  clear zr
  have Ax := Lib.hid (vw_at (belowT Av.out.g g) hs)
  replace Av := Lib.hid (Av.out.keep (belowT g (below1 (o := .cells (vo ⟨sx, X.out⟩) 25))))
  replace M := Lib.hid (blk_keep (belowT g (below1 (o := .cells (vo ⟨sx, X.out⟩) 25))) M.out)
  clear hs g
  go_upto_region 5 with fail
  obtain ⟨WAx, hW⟩ : ∃ W, W = w3.alloc (.cells (vo ⟨sx, X.out⟩) 25) := ⟨_, rfl⟩
  rw [← hW] at Av M Ax ⊢
  clear hW
  go_wp2_with fail
  go_loopw [13, 14] (fun o i wr => ∃ y : Nat, y ≤ j ∧ i = .int .i64 (y : Int) ∧ o = .int .u64 (P y : Int) ∧ wr = WAx) (fun _ i _ => j - (intOf i).toNat)
  case atStart => exact ⟨0, Nat.zero_le _, rfl, by rw [HP0.out]; rfl, rfl⟩
  case round =>
    obtain ⟨y, hy, rfl, rfl, rfl⟩ := hrel
    by_cases hlt : y < j
    · have d0 : decide ((y : Int) < (j : Int)) = true := decide_eq_true (by omega)
      have d0' : decide (y < j) = true := decide_eq_true hlt
      have u1 : (y : Int) + 1 < 10000 := by have := H64.out; omega
      have hs := HPs.out y
      have hl := HPl.out (y + 1) (by have := H64.out; omega)
      obtain ⟨t, ht⟩ : ∃ t, t = P y := ⟨_, rfl⟩
      rw [← ht] at hs
      rw [← ht]
      have u2 : 2 * (t : Int) < 18446744073709551616 := by omega
      have u3 : 0 ≤ 2 * (t : Int) := by omega
      have HS : Hid ((P (y + 1) : Int) = 2 * (t : Int)) := by show _ = _; omega
      have HLT := Lib.hid hlt
      clear hlt hs hl ht
      go_wp2_with fail
      go_roundw
      case rel => exact ⟨y + 1, HLT.out, by go_num, by rw [HS.out], by first | rfl | trivial⟩
      case measure => simp [intOf]; have := HLT.out; omega
    · obtain rfl : y = j := by omega
      clear hlt
      obtain ⟨b1, o1, rfl, _, qv⟩ := lats_ptr Av.out.s (by rw [Lv.out]; have := Hj.out; omega)
      have yh := lats_has qv (i := y) (by rw [Lv.out]; exact Hj.out)
      have ye := lats_epoch qv (i := y) (by rw [Lv.out]; exact Hj.out)
      clear qv
      generalize lat v.l y = z at *
      obtain ⟨hs, hhs⟩ : ∃ hs, hs = z.has := ⟨_, rfl⟩
      rw [← hhs] at yh HK HSm
      obtain ⟨E, hE⟩ : ∃ E, E = z.epoch.toNat := ⟨_, rfl⟩
      rw [← hE] at ye HK HSm
      clear hhs hE
      have z0v := Av.out.z0
      rw [sv_mk] at z0v
      have z1v := Av.out.z1
      have z1x := Ax.out.z1
      have zo := Av.out.zo
      rw [← HMm.out] at zo
      obtain ⟨B, hB⟩ : ∃ B, B = P y := ⟨_, rfl⟩
      have hp := Hpos.out
      have eq := HQ.out
      rw [← hB] at hp eq ⊢
      have hql := HQl.out
      have t0 : decide ((0 : Int) < (B : Int)) = true := decide_eq_true (by omega)
      have t0' : decide (0 < B) = true := decide_eq_true hp
      have b0 : ¬ (B : Int) = 0 := by omega
      have b0' : ¬ B = 0 := by omega
      have b1 : ((B : Int) == 0) = false := by rw [beq_eq_false_iff_ne]; omega
      have b1' : (B == 0) = false := by rw [beq_eq_false_iff_ne]; omega
      have eq' : Int.tdiv (m : Int) (B : Int) = (q : Int) := by rw [Int.tdiv_eq_ediv_of_nonneg (by omega)]; exact eq
      have q2 := HQ2.out
      clear hB
      cases ob
      · cases hs
        · skip
          have hK : K = 1 := HK.out.2 (⟨.inl rfl, rfl⟩)
          subst hK
          have HS3 := fun s s2 W h h2 => (HS2.out s s2 W h h2 : Calls _ _ _ _ _)
          replace HS2 := Lib.hid HS3
          clear HS3
          obtain ⟨sm, hsm⟩ : ∃ b, b = decide (X = v) := ⟨_, rfl⟩
          rw [← hsm] at HS2
          clear hsm
          go_wp2_with fail
          refine (HS2.out _ _ _ Ax.out.s Av.out.s).mono ?_
          rintro e w5 ⟨rfl, g⟩
          have G := Lib.hid (belowT Av.out.g g)
          clear g z0v z1v z1x zo yh ye
          go_wp2_with fail
          go_ret
          exact ⟨rfl, G.out⟩
        · by_cases h1 : E < ep.toNat
          · skip
            have d1 : decide ((E : Int) < (ep.toNat : Int)) = true := decide_eq_true (by omega)
            have d1' : decide (E < ep.toNat) = true := decide_eq_true (by omega)
            have d2 : decide ((ep.toNat : Int) < (E : Int)) = false := decide_eq_false (by omega)
            have d2' : decide (ep.toNat < E) = false := decide_eq_false (by omega)
            have hK : K = 1 := HK.out.2 (⟨.inr h1, rfl⟩)
            subst hK
            have HS3 := fun s s2 W h h2 => (HS2.out s s2 W h h2 : Calls _ _ _ _ _)
            replace HS2 := Lib.hid HS3
            clear HS3
            obtain ⟨sm, hsm⟩ : ∃ b, b = decide (X = v) := ⟨_, rfl⟩
            rw [← hsm] at HS2
            clear hsm
            go_wp2_with fail
            refine (HS2.out _ _ _ Ax.out.s Av.out.s).mono ?_
            rintro e w5 ⟨rfl, g⟩
            have G := Lib.hid (belowT Av.out.g g)
            clear g z0v z1v z1x zo yh ye
            go_wp2_with fail
            go_ret
            exact ⟨rfl, G.out⟩
          · by_cases h2 : ep.toNat < E
            · skip
              have d1 : decide ((E : Int) < (ep.toNat : Int)) = false := decide_eq_false (by omega)
              have d1' : decide (E < ep.toNat) = false := decide_eq_false (by omega)
              have d2 : decide ((ep.toNat : Int) < (E : Int)) = true := decide_eq_true (by omega)
              have d2' : decide (ep.toNat < E) = true := decide_eq_true (by omega)
              have hK : K ≠ 1 := fun e => by have := HK.out.1 e; revert this; simp; try omega
              have t9 : ((K : Int) == 1) = false := by rw [beq_eq_false_iff_ne]; omega
              have t9' : (K == 1) = false := by rw [beq_eq_false_iff_ne]; exact hK
              clear hK
              have hX := HSm.out (.inr ⟨rfl, h2⟩)
              rw [decide_eq_true hX] at HS2
              clear hX
              go_wp2_with fail
              refine (HS2.out _ _ _ Ax.out.s Av.out.s).mono ?_
              rintro e w5 ⟨rfl, g⟩
              have G := Lib.hid (belowT Av.out.g g)
              clear g z0v z1v z1x zo yh ye
              go_wp2_with fail
              go_ret
              exact ⟨rfl, G.out⟩
            · skip
              have d1 : decide ((E : Int) < (ep.toNat : Int)) = false := decide_eq_false (by omega)
              have d1' : decide (E < ep.toNat) = false := decide_eq_false (by omega)
              have d2 : decide ((ep.toNat : Int) < (E : Int)) = false := decide_eq_false (by omega)
              have d2' : decide (ep.toNat < E) = false := decide_eq_false (by omega)
              have hK : K ≠ 1 := fun e => by have := HK.out.1 e; revert this; simp; try omega
              have t9 : ((K : Int) == 1) = false := by rw [beq_eq_false_iff_ne]; omega
              have t9' : (K == 1) = false := by rw [beq_eq_false_iff_ne]; exact hK
              clear hK
              have HS3 := fun s s2 W h h2 => (HS2.out s s2 W h h2 : Calls _ _ _ _ _)
              replace HS2 := Lib.hid HS3
              clear HS3
              obtain ⟨sm, hsm⟩ : ∃ b, b = decide (X = v) := ⟨_, rfl⟩
              rw [← hsm] at HS2
              clear hsm
              go_wp2_with fail
              refine (HS2.out _ _ _ Ax.out.s Av.out.s).mono ?_
              rintro e w5 ⟨rfl, g⟩
              have G := Lib.hid (belowT Av.out.g g)
              clear g z0v z1v z1x zo yh ye
              go_wp2_with fail
              go_ret
              exact ⟨rfl, G.out⟩
      · cases hs
        · skip
          have hK : K ≠ 1 := fun e => by have := HK.out.1 e; revert this; simp; try omega
          have t9 : ((K : Int) == 1) = false := by rw [beq_eq_false_iff_ne]; omega
          have t9' : (K == 1) = false := by rw [beq_eq_false_iff_ne]; exact hK
          clear hK
          have hX := HSm.out (.inl rfl)
          rw [decide_eq_true hX] at HS2
          clear hX
          go_wp2_with fail
          refine (HS2.out _ _ _ Ax.out.s Av.out.s).mono ?_
          rintro e w5 ⟨rfl, g⟩
          have G := Lib.hid (belowT Av.out.g g)
          clear g z0v z1v z1x zo yh ye
          go_wp2_with fail
          go_ret
          exact ⟨rfl, G.out⟩
        · by_cases h1 : E < ep.toNat
          · skip
            have d1 : decide ((E : Int) < (ep.toNat : Int)) = true := decide_eq_true (by omega)
            have d1' : decide (E < ep.toNat) = true := decide_eq_true (by omega)
            have d2 : decide ((ep.toNat : Int) < (E : Int)) = false := decide_eq_false (by omega)
            have d2' : decide (ep.toNat < E) = false := decide_eq_false (by omega)
            have hK : K ≠ 1 := fun e => by have := HK.out.1 e; revert this; simp; try omega
            have t9 : ((K : Int) == 1) = false := by rw [beq_eq_false_iff_ne]; omega
            have t9' : (K == 1) = false := by rw [beq_eq_false_iff_ne]; exact hK
            clear hK
            have hX := HSm.out (.inl rfl)
            rw [decide_eq_true hX] at HS2
            clear hX
            go_wp2_with fail
            refine (HS2.out _ _ _ Ax.out.s Av.out.s).mono ?_
            rintro e w5 ⟨rfl, g⟩
            have G := Lib.hid (belowT Av.out.g g)
            clear g z0v z1v z1x zo yh ye
            go_wp2_with fail
            go_ret
            exact ⟨rfl, G.out⟩
          · by_cases h2 : ep.toNat < E
            · skip
              have d1 : decide ((E : Int) < (ep.toNat : Int)) = false := decide_eq_false (by omega)
              have d1' : decide (E < ep.toNat) = false := decide_eq_false (by omega)
              have d2 : decide ((ep.toNat : Int) < (E : Int)) = true := decide_eq_true (by omega)
              have d2' : decide (ep.toNat < E) = true := decide_eq_true (by omega)
              have hK : K ≠ 1 := fun e => by have := HK.out.1 e; revert this; simp; try omega
              have t9 : ((K : Int) == 1) = false := by rw [beq_eq_false_iff_ne]; omega
              have t9' : (K == 1) = false := by rw [beq_eq_false_iff_ne]; exact hK
              clear hK
              have hX := HSm.out (.inl rfl)
              rw [decide_eq_true hX] at HS2
              clear hX
              go_wp2_with fail
              refine (HS2.out _ _ _ Ax.out.s Av.out.s).mono ?_
              rintro e w5 ⟨rfl, g⟩
              have G := Lib.hid (belowT Av.out.g g)
              clear g z0v z1v z1x zo yh ye
              go_wp2_with fail
              go_ret
              exact ⟨rfl, G.out⟩
            · skip
              have d1 : decide ((E : Int) < (ep.toNat : Int)) = false := decide_eq_false (by omega)
              have d1' : decide (E < ep.toNat) = false := decide_eq_false (by omega)
              have d2 : decide ((ep.toNat : Int) < (E : Int)) = false := decide_eq_false (by omega)
              have d2' : decide (ep.toNat < E) = false := decide_eq_false (by omega)
              have hK : K ≠ 1 := fun e => by have := HK.out.1 e; revert this; simp; try omega
              have t9 : ((K : Int) == 1) = false := by rw [beq_eq_false_iff_ne]; omega
              have t9' : (K == 1) = false := by rw [beq_eq_false_iff_ne]; exact hK
              clear hK
              have hX := HSm.out (.inl rfl)
              rw [decide_eq_true hX] at HS2
              clear hX
              go_wp2_with fail
              refine (HS2.out _ _ _ Ax.out.s Av.out.s).mono ?_
              rintro e w5 ⟨rfl, g⟩
              have G := Lib.hid (belowT Av.out.g g)
              clear g z0v z1v z1x zo yh ye
              go_wp2_with fail
              go_ret
              exact ⟨rfl, G.out⟩
/-- The law. -/
theorem voteLaterL (H : VoteC) (tv : SlV) (v : Vt) (val : Int) (r : Rt) (ep : UInt64) (w : World) (hv : SlE Elt w (sv tv) v.l) :
    Calls Try.prog 8 #[.agg (vo ⟨tv, v.out⟩), .int .i64 val, .agg (rc r), .int .u64 (ep.toNat : Int)] w fun e w' => e = .returned (.bool true) ∧ Below w.heap.size w w' := by
  have lv := sv_lenT hv
  obtain ⟨pv, nv, cv⟩ := tv
  dsimp only at lv
  exact voteLater_n H pv _ cv v val r ep w hv lv
end Go.Proofs.Ytfmbgpjpkahmnaa
