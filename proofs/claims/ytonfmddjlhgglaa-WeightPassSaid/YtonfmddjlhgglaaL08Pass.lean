/-
  The law WeightPass, walked. (written by wip/gen/law08.py)
-/
import Derived.Test.YtonfmddjlhgglaaLaw08
import Derived.Test.YtonfmddjlhgglaaP06May
import Derived.Test.YtonfmddjlhgglaaLexE
namespace Go.Proofs.Ytonfmddjlhgglaa
open Go.RowKit

set_option maxRecDepth 100000 in
set_option maxHeartbeats 8000000 in
theorem weightPass_n (HSu : SubC) (HPa : PassC) (HSa : SameC) (p : Option Addr) (n cp : Nat) (l : List Nd) (q1 : Option Addr) (m1 c1 : Nat) (a1 : List UInt64) (q2 : Option Addr) (m2 c2 : Nat) (a2 : List UInt64) (q3 : Option Addr) (m3 c3 : Nat) (a3 : List UInt64) (w : World) (h : SlE Ene w (.slice p n cp) l) (hl : l.length = n) (h1 : SlE Enum w (.slice q1 m1 c1) a1) (e1 : a1.length = m1) (h2 : SlE Enum w (.slice q2 m2 c2) a2) (e2 : a2.length = m2) (h3 : SlE Enum w (.slice q3 m3 c3) a3) (e3 : a3.length = m3) :
    Calls Try.prog 4 #[.agg (tr ⟨⟨p, n, cp⟩⟩), .slice q1 m1 c1, .slice q2 m2 c2, .slice q3 m3 c3] w fun e w' => e = .returned (.bool true) ∧ Below w.heap.size w w' := by
  have V : Hid (Tw w (w.alloc (.cells (tr ⟨⟨p, n, cp⟩⟩) 24)) w.heap.size ⟨p, n, cp⟩ l) := tw_one h
  obtain ⟨W0, hW0⟩ : ∃ W0, W0 = w.alloc (.cells (tr ⟨⟨p, n, cp⟩⟩) 24) := ⟨_, rfl⟩
  have hB : Below w.heap.size w W0 := by rw [hW0]; exact below1
  rw [← hW0] at V
  have A := V
  have HW := Lib.hid hW0
  have HL := Lib.hid hl
  have B1 : Hid (SlE Enum W0 (.slice q1 m1 c1) a1) := slE_keep hB h1
  have E1 := Lib.hid e1
  have B2 : Hid (SlE Enum W0 (.slice q2 m2 c2) a2) := slE_keep hB h2
  have E2 := Lib.hid e2
  have B3 : Hid (SlE Enum W0 (.slice q3 m3 c3) a3) := slE_keep hB h3
  have E3 := Lib.hid e3
  have HAw := Lib.hid (fun W => awake_any8 HSu HPa HSa W)
  have HSu := Lib.hid HSu
  have HPa := Lib.hid HPa
  have HSa := Lib.hid HSa
  clear V hW0 hB h hl h1 e1 h2 e2 h3 e3
  have HMay := Lib.hid (fun W (g : SlE Ene W (.slice p n cp) l) => treeMay ⟨p, n, cp⟩ l W g)
  go_enter Try.func4, Try.ntmps4
  go_wp2_with fail
  rw [← HW.out]
  refine (HAw.out _).mono ?_
  rintro e w1 ⟨rfl, g⟩
  replace A := Lib.hid (A.out.keep g)
  replace B1 := Lib.hid (slE_keep g B1.out)
  replace B2 := Lib.hid (slE_keep g B2.out)
  replace B3 := Lib.hid (slE_keep g B3.out)
  clear g
  have z1 := A.out.z1
  have z0 := A.out.z0
  rw [sv_mk] at z0
  go_wp2_with fail
  refine (HMay.out _ A.out.s).mono ?_
  rintro e w2 ⟨rfl, g⟩
  replace A := Lib.hid (A.out.keep g)
  replace B1 := Lib.hid (slE_keep g B1.out)
  replace B2 := Lib.hid (slE_keep g B2.out)
  replace B3 := Lib.hid (slE_keep g B3.out)
  clear g
  replace z1 := A.out.z1
  replace z0 := A.out.z0
  rw [sv_mk] at z0
  clear HMay
  by_cases hm : MayT l
  case neg =>
    rw [decide_eq_false hm]
    clear hm
    go_wp2_with fail
    go_ret
    exact ⟨rfl, A.out.g⟩
  rw [decide_eq_true hm]
  have HN : Hid (n ≤ 12) := by show n ≤ 12; have := hm.le; have := HL.out; omega
  have HM := Lib.hid hm
  clear hm
  by_cases hm1 : m1 = n
  case neg =>
    have hm1i : ((m1 : Int) != (n : Int)) = true := by rw [bne_iff_ne]; omega
    clear hm1
    go_wp2_with fail
    go_ret
    exact ⟨rfl, A.out.g⟩
  obtain rfl : n = m1 := hm1.symm
  have hnn : ((n : Int) != (n : Int)) = false := by simp
  by_cases hm2 : m2 = n
  case neg =>
    have hm2i : ((m2 : Int) != (n : Int)) = true := by rw [bne_iff_ne]; omega
    clear hm2
    go_wp2_with fail
    go_ret
    exact ⟨rfl, A.out.g⟩
  obtain rfl : n = m2 := hm2.symm
  by_cases hm3 : m3 = n
  case neg =>
    have hm3i : ((m3 : Int) != (n : Int)) = true := by rw [bne_iff_ne]; omega
    clear hm3
    go_wp2_with fail
    go_ret
    exact ⟨rfl, A.out.g⟩
  obtain rfl : n = m3 := hm3.symm
  go_wp2_with fail
  go_loopw [10, 11] (fun v i wr => ∃ j : Nat, j ≤ n ∧ i = .int .i64 (j : Int) ∧ (∀ k, k < j → fn a1 k < 1125899906842624 ∧ fn a2 k < 1125899906842624 ∧ fn a3 k ≤ fn a1 k + fn a2 k) ∧ OwnE Enum wr w2.heap.size v (numsT (fun k => fn a1 k + fn a2 k - fn a3 k) j) ∧ Below w2.heap.size w2 wr) (fun _ i _ => n - (intOf i).toNat)
  case atStart => exact ⟨0, Nat.zero_le _, rfl, fun x hx => absurd hx (Nat.not_lt_zero _), ownE_nil _ _ _, Below.refl _ _⟩
  case round =>
    obtain ⟨j, hj, rfl, hx, hown, hb⟩ := hrel
    have HAl := Lib.hid hx
    have HO := Lib.hid hown
    have HBB := Lib.hid hb
    obtain ⟨pv, cv, rfl⟩ := ownE_len hown (nums_len _ j)
    clear hx hown hb
    by_cases hlt : j < n
    · have i0 : (0 : Int) ≤ (j : Int) := by omega
      have i1 : (j : Int) < (n : Int) := by omega
      have u1 : (j : Int) + 1 < 10000 := by have := HN.out; omega
      have HJT := Lib.hid hlt
      have HLn := Lib.hid (nums_len (fun k => fn a1 k + fn a2 k - fn a3 k) j)
      obtain ⟨b1, o1, rfl, r1, x1⟩ := nums_ptr B1.out (by have := E1.out; omega)
      have y1 := nums_cell (keepR HBB.out x1) (i := j) (by have := E1.out; omega)
      have Q1 := Lib.hid r1
      obtain ⟨b2, o2, rfl, r2, x2⟩ := nums_ptr B2.out (by have := E2.out; omega)
      have y2 := nums_cell (keepR HBB.out x2) (i := j) (by have := E2.out; omega)
      have Q2 := Lib.hid r2
      obtain ⟨b3, o3, rfl, r3, x3⟩ := nums_ptr B3.out (by have := E3.out; omega)
      have y3 := nums_cell (keepR HBB.out x3) (i := j) (by have := E3.out; omega)
      have Q3 := Lib.hid r3
      clear x1 x2 x3 r1 r2 r3 hlt
      obtain ⟨X, hX⟩ : ∃ y, y = fn a1 j := ⟨_, rfl⟩
      rw [← hX] at y1
      have HX := Lib.hid hX
      clear hX
      obtain ⟨Y, hY⟩ : ∃ y, y = fn a2 j := ⟨_, rfl⟩
      rw [← hY] at y2
      have HY := Lib.hid hY
      clear hY
      obtain ⟨Z, hZ⟩ : ∃ y, y = fn a3 j := ⟨_, rfl⟩
      rw [← hZ] at y3
      have HZ := Lib.hid hZ
      clear hZ
      by_cases hbX : 1125899906842624 ≤ X
      · have tbX : decide ((1125899906842624 : Int) ≤ (X : Int)) = true := decide_eq_true (by omega)
        have tbX' : decide (1125899906842624 ≤ X) = true := decide_eq_true hbX
        clear hbX
        go_wp2_with fail
        go_quiet (fail)
        go_wp2_with fail
        go_ret
        exact ⟨rfl, belowT A.out.g (belowD HBB.out _)⟩
      have tbX : decide ((1125899906842624 : Int) ≤ (X : Int)) = false := decide_eq_false (by omega)
      have tbX' : decide (1125899906842624 ≤ X) = false := decide_eq_false hbX
      have HSX : Hid (X < 1125899906842624) := by show X < _; omega
      clear hbX
      by_cases hbY : 1125899906842624 ≤ Y
      · have tbY : decide ((1125899906842624 : Int) ≤ (Y : Int)) = true := decide_eq_true (by omega)
        have tbY' : decide (1125899906842624 ≤ Y) = true := decide_eq_true hbY
        clear hbY
        go_wp2_with fail
        go_quiet (fail)
        go_wp2_with fail
        go_ret
        exact ⟨rfl, belowT A.out.g (belowD HBB.out _)⟩
      have tbY : decide ((1125899906842624 : Int) ≤ (Y : Int)) = false := decide_eq_false (by omega)
      have tbY' : decide (1125899906842624 ≤ Y) = false := decide_eq_false hbY
      have HSY : Hid (Y < 1125899906842624) := by show Y < _; omega
      clear hbY
      obtain ⟨U, hU⟩ : ∃ U, U = X + Y := ⟨_, rfl⟩
      have eU : (X : Int) + (Y : Int) = (U : Int) := by omega
      have uU : (U : Int) < 18446744073709551616 := by have := HSX.out; have := HSY.out; omega
      have HU := Lib.hid hU
      have HUL : Hid (U < 18446744073709551616) := by show U < _; omega
      clear hU
      by_cases hbZ : U < Z
      · have tZ : decide ((U : Int) < (Z : Int)) = true := decide_eq_true (by omega)
        have tZ' : decide (U < Z) = true := decide_eq_true hbZ
        clear hbZ
        go_wp2_with fail
        go_quiet (fail)
        go_wp2_with fail
        go_ret
        exact ⟨rfl, belowT A.out.g (belowD HBB.out _)⟩
      have tZ : decide ((U : Int) < (Z : Int)) = false := decide_eq_false (by omega)
      have tZ' : decide (U < Z) = false := decide_eq_false hbZ
      obtain ⟨V, hV⟩ : ∃ V, V = U - Z := ⟨_, rfl⟩
      have eV : (U : Int) - (Z : Int) = (V : Int) := by omega
      have HVL : Hid (V < 18446744073709551616) := by show V < _; have := HUL.out; omega
      have uV : (V : Int) < 18446744073709551616 := by have := HVL.out; omega
      have HV := Lib.hid hV
      have HZle : Hid (Z ≤ U) := by show Z ≤ U; omega
      clear hV hbZ
      go_wp2_with fail
      go_quiet (fail)
      replace HO := Lib.hid (show OwnE Enum (wr.drewN nq) _ _ _ from HO.out)
      replace HBB := Lib.hid (belowD HBB.out nq)
      replace y1 : (wr.drewN nq).cell? _ = _ := y1
      replace y2 : (wr.drewN nq).cell? _ = _ := y2
      replace y3 : (wr.drewN nq).cell? _ = _ := y3
      generalize wr.drewN nq = wy at *
      go_wp2_with fail
      have L0 := fun q : WdB w2.heap.size wy.drew => cell_wdB' (show wy.drew.cell? _ = _ from y1) Q1.out q
      have L1 := fun q : WdB w2.heap.size wy.drew => cell_wdB' (show wy.drew.cell? _ = _ from y2) Q2.out q
      have L2 := fun q : WdB w2.heap.size wy.drew => cell_wdB' (show wy.drew.cell? _ = _ from y3) Q3.out q
      refine wp_region_lexB w2.heap.size [15, 16] (by kernel_rfl) (by kernel_rfl) (by kernel_rfl) ?_
      repeat (refine wpXL_quietB rfl rfl ?_; (first | go_big_quiet_step (fail) | quiet_step (fail)); refine wpQuiet_nil ?_)
      have BZ : Hid (w2.heap.size ≤ wy.drew.heap.size) := HBB.out.size
      refine wpXL_eff rfl rfl (.slice (some ⟨wy.drew.heap.size, 0, none⟩) 1 1) (wy.drew.alloc (.cells #[.int .u64 (V : Int)] 33)) (by go_simp) ((Below.refl _ _).alloc BZ.out _) ?_
      simp only [Act.put, List.setIfInBounds_toArray, List.set_cons_zero, List.set_cons_succ]
      repeat (refine wpXL_quietB rfl rfl ?_; (first | go_big_quiet_step (fail) | quiet_step (fail)); refine wpQuiet_nil ?_)
      have O5 : Hid (OwnE Enum (wy.drew.alloc (.cells #[.int .u64 (V : Int)] 33)) w2.heap.size (.slice pv j cv) (numsT (fun k => fn a1 k + fn a2 k - fn a3 k) j)) := ownE_alloc (ownE_drew HO.out) _
      have B5 : Hid (w2.heap.size ≤ (wy.drew.alloc (.cells #[.int .u64 (V : Int)] 33)).heap.size) := by show _ ≤ _; have := HBB.out.size; simp; omega
      refine wpXL_appendE Knum rfl rfl (.tmp 84) (.tmp 99) rfl w2.heap.size _ (numsT (fun k => fn a1 k + fn a2 k - fn a3 k) j) rfl O5.out _ [UInt64.ofNat V] rfl (nums_one _ HVL.out _ rfl) (by have := HLn.out; have := HN.out; have := HJT.out; simp; omega) B5.out (fun v' w' g => g.own O5.out B5.out) ?_
      intro v5 wq ho5 hg5
      have G5 : Hid (Below w2.heap.size w2 wq) := (HBB.out.trans (((belowD (Below.refl _ _) 1).mono HBB.out.size).trans (below1.mono BZ.out))).trans (hg5.own O5.out B5.out)
      have HO5 := Lib.hid ho5
      simp only [Act.put, List.setIfInBounds_toArray, List.set_cons_zero, List.set_cons_succ]
      clear ho5 hg5
      repeat (refine wpXL_quietB rfl rfl ?_; (first | go_big_quiet_step (fail) | quiet_step (fail)); refine wpQuiet_nil ?_)
      refine wpXL_nil ?_
      go_wp2_with fail
      go_roundw
      case rel => exact ⟨j + 1, HJT.out, by go_num, fun k hk => by
          rcases Nat.lt_succ_iff_lt_or_eq.1 hk with h | rfl
          · exact HAl.out k h
          · exact ⟨by rw [← HX.out]; exact HSX.out, by rw [← HY.out]; exact HSY.out, by rw [← HX.out, ← HY.out, ← HZ.out, ← HU.out]; exact HZle.out⟩, by rw [nums_succ, ← HX.out, ← HY.out, ← HZ.out, ← HU.out, ← HV.out]; exact HO5.out, G5.out⟩
      case measure => simp [intOf]; have := HJT.out; omega
    · obtain rfl : j = n := by omega
      have HC := Lib.hid (ownE_slE HO.out)
      clear hlt
      have C0 := HC
      clear HC
      replace A := Lib.hid (A.out.keep HBB.out)
      replace B1 := Lib.hid (slE_keep HBB.out B1.out)
      replace B2 := Lib.hid (slE_keep HBB.out B2.out)
      replace B3 := Lib.hid (slE_keep HBB.out B3.out)
      obtain ⟨wz, rfl⟩ : ∃ W : World, W = wr := ⟨_, rfl⟩
      clear HO HBB
      replace z1 := A.out.z1
      replace z0 := A.out.z0
      rw [sv_mk] at z0
      obtain ⟨cl, hcl⟩ : ∃ cl, cl = numsT (fun k => fn a1 k + fn a2 k - fn a3 k) j := ⟨_, rfl⟩
      rw [← hcl] at C0
      obtain ⟨l1, l2, l3, l4⟩ := law_pass (l := l) (own := a1) (p := a2) (m := a3) (is := cl) HM.out (by rw [E1.out, HL.out]) (by rw [E2.out, HL.out]) (by rw [E3.out, HL.out]) (by rw [hcl, nums_len, HL.out]) (fun k hk => by
        have hk2 : k < j := by have := HL.out; omega
        have h2 := HAl.out k hk2
        refine ⟨h2.1, h2.2.1, h2.2.2, ?_⟩
        rw [hcl]
        exact fn_nums hk2 (by omega))
      have HS1 := Lib.hid (fun W (g : SlE Ene W (.slice p j cp) l) (g2 : SlE Enum W (.slice q1 j c1) a1) => HSu.out ⟨p, j, cp⟩ _ l a1 W g g2)
      rw [l1] at HS1
      have HS2 := Lib.hid (fun W v (g : SlE Ene W (.slice p j cp) l) (g2 : SlE Enum W v cl) => HSu.out ⟨p, j, cp⟩ v l cl W g g2)
      rw [l2] at HS2
      have HP1 := Lib.hid (fun W v (g : SlE Ene W (.slice p j cp) l) (g1 : SlE Enum W v (subL l a1)) (g2 : SlE Enum W (.slice q2 j c2) a2) (g3 : SlE Enum W (.slice q3 j c3) a3) => HPa.out ⟨p, j, cp⟩ v _ _ l (subL l a1) a2 a3 W g g1 g2 g3)
      rw [l3, l4] at HP1
      have K1 := Lib.hid (subL_le l cl)
      generalize subL l a1 = s1 at *
      generalize subL l cl = s2 at *
      clear l1 l2 l3 l4 hcl HAl
      go_wp2_with fail
      refine (HS1.out _ A.out.s B1.out).mono ?_
      rintro e w3 ⟨va, rfl, hv, g⟩
      replace A := Lib.hid (A.out.keep g)
      replace B1 := Lib.hid (slE_keep g B1.out)
      replace B2 := Lib.hid (slE_keep g B2.out)
      replace B3 := Lib.hid (slE_keep g B3.out)
      replace C0 := Lib.hid (slE_keep g C0.out)
      have R1 := Lib.hid hv
      clear hv
      clear g
      replace z1 := A.out.z1
      replace z0 := A.out.z0
      rw [sv_mk] at z0
      go_wp2_with fail
      refine (HS2.out _ _ A.out.s C0.out).mono ?_
      rintro e w4 ⟨vb, rfl, hv, g⟩
      replace A := Lib.hid (A.out.keep g)
      replace B1 := Lib.hid (slE_keep g B1.out)
      replace B2 := Lib.hid (slE_keep g B2.out)
      replace B3 := Lib.hid (slE_keep g B3.out)
      replace C0 := Lib.hid (slE_keep g C0.out)
      replace R1 := Lib.hid (slE_keep g R1.out)
      have R2 := Lib.hid hv
      clear hv
      clear g
      replace z1 := A.out.z1
      replace z0 := A.out.z0
      rw [sv_mk] at z0
      go_wp2_with fail
      refine (HP1.out _ _ A.out.s R1.out B2.out B3.out).mono ?_
      rintro e w5 ⟨vc, rfl, hv, g⟩
      replace A := Lib.hid (A.out.keep g)
      replace B1 := Lib.hid (slE_keep g B1.out)
      replace B2 := Lib.hid (slE_keep g B2.out)
      replace B3 := Lib.hid (slE_keep g B3.out)
      replace C0 := Lib.hid (slE_keep g C0.out)
      replace R1 := Lib.hid (slE_keep g R1.out)
      replace R2 := Lib.hid (slE_keep g R2.out)
      have R3 := Lib.hid hv
      clear hv
      clear g
      replace z1 := A.out.z1
      replace z0 := A.out.z0
      rw [sv_mk] at z0
      have hs := ref08Same vc vb s2 s2 _ R3.out R2.out (by have := K1.out; omega)
      rw [decide_eq_true rfl] at hs
      go_wp2_with fail
      refine (hs).mono ?_
      rintro e w6 ⟨rfl, g⟩
      replace A := Lib.hid (A.out.keep g)
      replace B1 := Lib.hid (slE_keep g B1.out)
      replace B2 := Lib.hid (slE_keep g B2.out)
      replace B3 := Lib.hid (slE_keep g B3.out)
      replace C0 := Lib.hid (slE_keep g C0.out)
      replace R1 := Lib.hid (slE_keep g R1.out)
      replace R2 := Lib.hid (slE_keep g R2.out)
      replace R3 := Lib.hid (slE_keep g R3.out)
      clear g
      replace z1 := A.out.z1
      replace z0 := A.out.z0
      rw [sv_mk] at z0
      clear hs
      go_wp2_with fail
      go_ret
      exact ⟨rfl, A.out.g⟩
/-- The law. -/
theorem weightPassL (HSu : SubC) (HPa : PassC) (HSa : SameC) (s : Tr) (l : List Nd) (v1 : Value) (a1 : List UInt64) (v2 : Value) (a2 : List UInt64) (v3 : Value) (a3 : List UInt64) (w : World) (h : SlE Ene w (sv s.n) l) (h1 : SlE Enum w v1 a1) (h2 : SlE Enum w v2 a2) (h3 : SlE Enum w v3 a3) :
    Calls Try.prog 4 #[.agg (tr s), v1, v2, v3] w fun e w' => e = .returned (.bool true) ∧ Below w.heap.size w w' := by
  obtain ⟨s⟩ := s
  have hn := sv_lenN h
  obtain ⟨p, n, cp⟩ := s
  have k1 := h1
  obtain ⟨q1, c1, rfl, _⟩ := slE_shape h1
  have k2 := h2
  obtain ⟨q2, c2, rfl, _⟩ := slE_shape h2
  have k3 := h3
  obtain ⟨q3, c3, rfl, _⟩ := slE_shape h3
  exact weightPass_n HSu HPa HSa p n cp l q1 _ c1 a1 q2 _ c2 a2 q3 _ c3 a3 w h hn k1 rfl k2 rfl k3 rfl
end Go.Proofs.Ytonfmddjlhgglaa
