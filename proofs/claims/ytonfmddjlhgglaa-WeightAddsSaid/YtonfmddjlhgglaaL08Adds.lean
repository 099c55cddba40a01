/-
  The law WeightAdds, walked. (written by wip/gen/law08.py)
-/
import Derived.Test.YtonfmddjlhgglaaLaw08
import Derived.Test.YtonfmddjlhgglaaP06May
import Derived.Test.YtonfmddjlhgglaaLexE
namespace Go.Proofs.Ytonfmddjlhgglaa
open Go.RowKit

set_option maxRecDepth 100000 in
set_option maxHeartbeats 8000000 in
theorem weightAdds_n (HSu : SubC) (HPa : PassC) (HSa : SameC) (p : Option Addr) (n cp : Nat) (l : List Nd) (q1 : Option Addr) (m1 c1 : Nat) (a1 : List UInt64) (q2 : Option Addr) (m2 c2 : Nat) (a2 : List UInt64) (w : World) (h : SlE Ene w (.slice p n cp) l) (hl : l.length = n) (h1 : SlE Enum w (.slice q1 m1 c1) a1) (e1 : a1.length = m1) (h2 : SlE Enum w (.slice q2 m2 c2) a2) (e2 : a2.length = m2) :
    Calls Try.prog 7 #[.agg (tr ⟨⟨p, n, cp⟩⟩), .slice q1 m1 c1, .slice q2 m2 c2] w fun e w' => e = .returned (.bool true) ∧ Below w.heap.size w w' := by
  have V : Hid (Tw w (w.alloc (.cells (tr ⟨⟨p, n, cp⟩⟩) 24)) w.heap.size ⟨p, n, cp⟩ l) := tw_one h
  obtain ⟨W0, hW0⟩ : ∃ W0, W0 = w.alloc (.cells (tr ⟨⟨p, n, cp⟩⟩) 24) := ⟨_, rfl⟩
  have hB : Below w.heap.size w W0 := by rw [hW0]; exact below1
  rw [← hW0] at V
  have A := V
  have HW := Lib.hid hW0
  have HL := Lib.hid hl
  have B1 : Hid (SlE Enum W0 (.slice q1 m1 c1) a1) := slE_keep hB h1
  have E1 := Lib.hid e1
  have B2 : Hid (SlE Enum W0 (.slice q2 m2 c2) a2) := slE_keep hB h2
  have E2 := Lib.hid e2
  have HAw := Lib.hid (fun W => awake_any8 HSu HPa HSa W)
  have HSu := Lib.hid HSu
  have HPa := Lib.hid HPa
  have HSa := Lib.hid HSa
  clear V hW0 hB h hl h1 e1 h2 e2
  go_enter Try.func7, Try.ntmps7
  go_wp2_with fail
  rw [← HW.out]
  refine (HAw.out _).mono ?_
  rintro e w1 ⟨rfl, g⟩
  replace A := Lib.hid (A.out.keep g)
  replace B1 := Lib.hid (slE_keep g B1.out)
  replace B2 := Lib.hid (slE_keep g B2.out)
  clear g
  have z1 := A.out.z1
  have z0 := A.out.z0
  rw [sv_mk] at z0
  by_cases h20 : 20 < n
  · have h20i : decide ((20 : Int) < (n : Int)) = true := decide_eq_true (by omega)
    have h20i' : decide (20 < n) = true := decide_eq_true (by omega)
    clear h20
    go_wp2_with fail
    go_ret
    exact ⟨rfl, A.out.g⟩
  have h20i : decide ((20 : Int) < (n : Int)) = false := decide_eq_false (by omega)
  have h20i' : decide (20 < n) = false := decide_eq_false (by omega)
  by_cases hm1 : m1 = n
  case neg =>
    have hm1i : ((m1 : Int) != (n : Int)) = true := by rw [bne_iff_ne]; omega
    clear hm1
    go_wp2_with fail
    go_ret
    exact ⟨rfl, A.out.g⟩
  obtain rfl : n = m1 := hm1.symm
  have hnn : ((n : Int) != (n : Int)) = false := by simp
  by_cases hm2 : m2 = n
  case neg =>
    have hm2i : ((m2 : Int) != (n : Int)) = true := by rw [bne_iff_ne]; omega
    clear hm2
    go_wp2_with fail
    go_ret
    exact ⟨rfl, A.out.g⟩
  obtain rfl : n = m2 := hm2.symm
  have HN : Hid (n ≤ 20) := by show n ≤ 20; omega
  clear h20
  go_wp2_with fail
  go_loopw [8, 9] (fun v i wr => ∃ j : Nat, j ≤ n ∧ i = .int .i64 (j : Int) ∧ (∀ k, k < j → fn a1 k < 1125899906842624 ∧ fn a2 k < 1125899906842624) ∧ OwnE Enum wr w1.heap.size v (numsT (fun k => fn a1 k + fn a2 k) j) ∧ Below w1.heap.size w1 wr) (fun _ i _ => n - (intOf i).toNat)
  case atStart => exact ⟨0, Nat.zero_le _, rfl, fun x hx => absurd hx (Nat.not_lt_zero _), ownE_nil _ _ _, Below.refl _ _⟩
  case round =>
    obtain ⟨j, hj, rfl, hx, hown, hb⟩ := hrel
    have HX := Lib.hid hx
    have HO := Lib.hid hown
    have HBB := Lib.hid hb
    obtain ⟨pv, cv, rfl⟩ := ownE_len hown (nums_len _ j)
    clear hx hown hb
    by_cases hlt : j < n
    · have i0 : (0 : Int) ≤ (j : Int) := by omega
      have i1 : (j : Int) < (n : Int) := by omega
      have u1 : (j : Int) + 1 < 10000 := by have := HN.out; omega
      have HJT := Lib.hid hlt
      have HLn := Lib.hid (nums_len (fun k => fn a1 k + fn a2 k) j)
      obtain ⟨b1, o1, rfl, r1, x1⟩ := nums_ptr B1.out (by have := E1.out; omega)
      obtain ⟨b2, o2, rfl, r2, x2⟩ := nums_ptr B2.out (by have := E2.out; omega)
      have y1 := nums_cell (keepR HBB.out x1) (i := j) (by have := E1.out; omega)
      have y2 := nums_cell (keepR HBB.out x2) (i := j) (by have := E2.out; omega)
      have R1 := Lib.hid r1
      have R2 := Lib.hid r2
      clear x1 x2 r1 r2 hlt
      obtain ⟨X, hX⟩ : ∃ y, y = fn a1 j := ⟨_, rfl⟩
      rw [← hX] at y1
      have HXa := Lib.hid hX
      clear hX
      obtain ⟨Y, hY⟩ : ∃ y, y = fn a2 j := ⟨_, rfl⟩
      rw [← hY] at y2
      have HY := Lib.hid hY
      clear hY
      by_cases hbX : 1125899906842624 ≤ X
      · have tbX : decide ((1125899906842624 : Int) ≤ (X : Int)) = true := decide_eq_true (by omega)
        have tbX' : decide (1125899906842624 ≤ X) = true := decide_eq_true hbX
        clear hbX
        go_wp2_with fail
        go_ret
        exact ⟨rfl, belowT A.out.g HBB.out⟩
      have tbX : decide ((1125899906842624 : Int) ≤ (X : Int)) = false := decide_eq_false (by omega)
      have tbX' : decide (1125899906842624 ≤ X) = false := decide_eq_false hbX
      have HSX : Hid (X < 1125899906842624) := by show X < _; omega
      clear hbX
      by_cases hbY : 1125899906842624 ≤ Y
      · have tbY : decide ((1125899906842624 : Int) ≤ (Y : Int)) = true := decide_eq_true (by omega)
        have tbY' : decide (1125899906842624 ≤ Y) = true := decide_eq_true hbY
        clear hbY
        go_wp2_with fail
        go_ret
        exact ⟨rfl, belowT A.out.g HBB.out⟩
      have tbY : decide ((1125899906842624 : Int) ≤ (Y : Int)) = false := decide_eq_false (by omega)
      have tbY' : decide (1125899906842624 ≤ Y) = false := decide_eq_false hbY
      have HSY : Hid (Y < 1125899906842624) := by show Y < _; omega
      clear hbY
      obtain ⟨V, hV⟩ : ∃ V, V = X + Y := ⟨_, rfl⟩
      have eV : (X : Int) + (Y : Int) = (V : Int) := by omega
      have HVL : Hid (V < 18446744073709551616) := by show V < _; have := HSX.out; have := HSY.out; omega
      have uV : (V : Int) < 18446744073709551616 := by have := HVL.out; omega
      have HV := Lib.hid hV
      clear hV
      go_wp2_with fail
      have L0 := fun q : WdB w1.heap.size wr.drew => cell_wdB' (show wr.drew.cell? _ = _ from y1) R1.out q
      have L1 := fun q : WdB w1.heap.size wr.drew => cell_wdB' (show wr.drew.cell? _ = _ from y2) R2.out q
      refine wp_region_lexB w1.heap.size [10, 11] (by kernel_rfl) (by kernel_rfl) (by kernel_rfl) ?_
      repeat (refine wpXL_quietB rfl rfl ?_; (first | go_big_quiet_step (fail) | quiet_step (fail)); refine wpQuiet_nil ?_)
      have BZ : Hid (w1.heap.size ≤ wr.drew.heap.size) := HBB.out.size
      refine wpXL_eff rfl rfl (.slice (some ⟨wr.drew.heap.size, 0, none⟩) 1 1) (wr.drew.alloc (.cells #[.int .u64 (V : Int)] 33)) (by go_simp) ((Below.refl _ _).alloc BZ.out _) ?_
      simp only [Act.put, List.setIfInBounds_toArray, List.set_cons_zero, List.set_cons_succ]
      repeat (refine wpXL_quietB rfl rfl ?_; (first | go_big_quiet_step (fail) | quiet_step (fail)); refine wpQuiet_nil ?_)
      have O5 : Hid (OwnE Enum (wr.drew.alloc (.cells #[.int .u64 (V : Int)] 33)) w1.heap.size (.slice pv j cv) (numsT (fun k => fn a1 k + fn a2 k) j)) := ownE_alloc (ownE_drew HO.out) _
      have B5 : Hid (w1.heap.size ≤ (wr.drew.alloc (.cells #[.int .u64 (V : Int)] 33)).heap.size) := by show _ ≤ _; have := HBB.out.size; simp; omega
      refine wpXL_appendE Knum rfl rfl (.tmp 62) (.tmp 72) rfl w1.heap.size _ (numsT (fun k => fn a1 k + fn a2 k) j) rfl O5.out _ [UInt64.ofNat V] rfl (nums_one _ HVL.out _ rfl) (by have := HLn.out; have := HN.out; have := HJT.out; simp; omega) B5.out (fun v' w' g => g.own O5.out B5.out) ?_
      intro v5 wq ho5 hg5
      have G5 : Hid (Below w1.heap.size w1 wq) := (HBB.out.trans (((belowD (Below.refl _ _) 1).mono HBB.out.size).trans (below1.mono BZ.out))).trans (hg5.own O5.out B5.out)
      have HO5 := Lib.hid ho5
      simp only [Act.put, List.setIfInBounds_toArray, List.set_cons_zero, List.set_cons_succ]
      clear ho5 hg5
      repeat (refine wpXL_quietB rfl rfl ?_; (first | go_big_quiet_step (fail) | quiet_step (fail)); refine wpQuiet_nil ?_)
      refine wpXL_nil ?_
      go_wp2_with fail
      go_roundw
      case rel => exact ⟨j + 1, HJT.out, by go_num, fun k hk => by
          rcases Nat.lt_succ_iff_lt_or_eq.1 hk with h | rfl
          · exact HX.out k h
          · exact ⟨by rw [← HXa.out]; exact HSX.out, by rw [← HY.out]; exact HSY.out⟩, by rw [nums_succ, ← HXa.out, ← HY.out, ← HV.out]; exact HO5.out, G5.out⟩
      case measure => simp [intOf]; have := HJT.out; omega
    · obtain rfl : j = n := by omega
      have hall : ∀ k, k < j → fn a1 k < 1125899906842624 ∧ fn a2 k < 1125899906842624 := HX.out
      have C0 := Lib.hid (ownE_slE HO.out)
      clear hlt
      replace A := Lib.hid (A.out.keep HBB.out)
      replace B1 := Lib.hid (slE_keep HBB.out B1.out)
      replace B2 := Lib.hid (slE_keep HBB.out B2.out)
      obtain ⟨w2, rfl⟩ : ∃ W : World, W = wr := ⟨_, rfl⟩
      clear HO HBB HX
      replace z1 := A.out.z1
      replace z0 := A.out.z0
      rw [sv_mk] at z0
      obtain ⟨cl, hcl⟩ : ∃ cl, cl = numsT (fun k => fn a1 k + fn a2 k) j := ⟨_, rfl⟩
      rw [← hcl] at C0
      have HCl := Lib.hid hcl
      have HAll := Lib.hid hall
      clear hcl hall
      go_wp2_with fail
      refine (HSu.out _ _ l a1 _ A.out.s B1.out).mono ?_
      rintro e w3 ⟨va, rfl, hv, g⟩
      replace A := Lib.hid (A.out.keep g)
      replace B1 := Lib.hid (slE_keep g B1.out)
      replace B2 := Lib.hid (slE_keep g B2.out)
      replace C0 := Lib.hid (slE_keep g C0.out)
      have R1 := Lib.hid hv
      clear hv
      clear g
      replace z1 := A.out.z1
      replace z0 := A.out.z0
      rw [sv_mk] at z0
      go_wp2_with fail
      refine (HSu.out _ _ l a2 _ A.out.s B2.out).mono ?_
      rintro e w4 ⟨vb, rfl, hv, g⟩
      replace A := Lib.hid (A.out.keep g)
      replace B1 := Lib.hid (slE_keep g B1.out)
      replace B2 := Lib.hid (slE_keep g B2.out)
      replace C0 := Lib.hid (slE_keep g C0.out)
      replace R1 := Lib.hid (slE_keep g R1.out)
      have R2 := Lib.hid hv
      clear hv
      clear g
      replace z1 := A.out.z1
      replace z0 := A.out.z0
      rw [sv_mk] at z0
      go_wp2_with fail
      refine (HSu.out _ _ l cl _ A.out.s C0.out).mono ?_
      rintro e w5 ⟨vc, rfl, hv, g⟩
      replace A := Lib.hid (A.out.keep g)
      replace B1 := Lib.hid (slE_keep g B1.out)
      replace B2 := Lib.hid (slE_keep g B2.out)
      replace C0 := Lib.hid (slE_keep g C0.out)
      replace R1 := Lib.hid (slE_keep g R1.out)
      replace R2 := Lib.hid (slE_keep g R2.out)
      have R3 := Lib.hid hv
      clear hv
      clear g
      replace z1 := A.out.z1
      replace z0 := A.out.z0
      rw [sv_mk] at z0
      by_cases hm : MayT l
      case neg =>
        rw [zero_not hm, zero_not hm, zero_not hm]
        clear hm
        go_wp2_with fail
        go_ret
        exact ⟨rfl, A.out.g⟩
      have hcn : cl.length = l.length := by rw [HCl.out, nums_len, HL.out]
      have hcf : ∀ k, k < l.length → fn cl k = fn a1 k + fn a2 k := fun k hk => by
        have h2 := HAll.out k (by have := HL.out; omega)
        rw [HCl.out]
        exact fn_nums (by have := HL.out; omega) (by omega)
      have hba : ∀ k, k < l.length → fn a1 k < 1125899906842624 ∧ fn a2 k < 1125899906842624 ∧ fn cl k = fn a1 k + fn a2 k := fun k hk => ⟨(HAll.out k (by have := HL.out; omega)).1, (HAll.out k (by have := HL.out; omega)).2, hcf k hk⟩
      have h1l : a1.length = l.length := by rw [E1.out, HL.out]
      have h2l : a2.length = l.length := by rw [E2.out, HL.out]
      have k1 := subOk_small (a := a1) hm h1l (b := 1125899906842624) (by omega) (fun k hk => by have := hba k hk; omega)
      have k2 := subOk_small (a := a2) hm h2l (b := 1125899906842624) (by omega) (fun k hk => by have := hba k hk; omega)
      have k3 := subOk_small (a := cl) hm hcn (b := 2251799813685248) (by omega) (fun k hk => by have := hba k hk; omega)
      rw [k1, k2, k3]
      have hsum : ∀ k, k < l.length → fn (subL l a1) k + fn (subL l a2) k = fn (subL l cl) k := fun k hk => by rw [subL_fn k1 hk, subL_fn k2 hk, subL_fn k3 hk, ← sub_add]; exact (sub_congr k fun q hq => (hba q hq).2.2).symm
      have HSum := Lib.hid hsum
      have F1 := Lib.hid (subL_len k1)
      have F2 := Lib.hid (subL_len k2)
      have F3 := Lib.hid (subL_len k3)
      obtain ⟨pa, ca, rfl⟩ := slE_len R1.out (F1.out.trans HL.out)
      obtain ⟨pb, cb, rfl⟩ := slE_len R2.out (F2.out.trans HL.out)
      have H0 : Hid (0 < j) := by show 0 < j; have := hm.pos; have := HL.out; omega
      generalize subL l a1 = s1 at *
      generalize subL l a2 = s2 at *
      generalize subL l cl = s3 at *
      obtain ⟨n, rfl⟩ : ∃ n, n = j := ⟨_, rfl⟩
      clear hm hcn hcf hba h1l h2l k1 k2 k3 hsum HAll HCl
      have KL := Lib.hid HL.out
      go_wp2_with fail
      go_loopw [16, 17] (fun v i wr => ∃ j : Nat, j ≤ n ∧ i = .int .i64 (j : Int) ∧ True ∧ OwnE Enum wr w5.heap.size v (numsT (fun k => fn s1 k + fn s2 k) j) ∧ Below w5.heap.size w5 wr) (fun _ i _ => n - (intOf i).toNat)
      case atStart => exact ⟨0, Nat.zero_le _, rfl, trivial, ownE_nil _ _ _, Below.refl _ _⟩
      case round =>
        obtain ⟨j, hj, rfl, _, hown, hb⟩ := hrel
        have HO := Lib.hid hown
        have HBB := Lib.hid hb
        obtain ⟨pv, cv, rfl⟩ := ownE_len hown (nums_len _ j)
        clear hown hb
        by_cases hlt : j < n
        · have i0 : (0 : Int) ≤ (j : Int) := by omega
          have i1 : (j : Int) < (n : Int) := by omega
          have u1 : (j : Int) + 1 < 10000 := by have := HN.out; omega
          have HJT := Lib.hid hlt
          have HLn := Lib.hid (nums_len (fun k => fn s1 k + fn s2 k) j)
          obtain ⟨b1, o1, rfl, r1, x1⟩ := nums_ptr R1.out (by have := F1.out; have := KL.out; omega)
          obtain ⟨b2, o2, rfl, r2, x2⟩ := nums_ptr R2.out (by have := F2.out; have := KL.out; omega)
          have y1 := nums_cell (keepR HBB.out x1) (i := j) (by have := F1.out; have := KL.out; omega)
          have y2 := nums_cell (keepR HBB.out x2) (i := j) (by have := F2.out; have := KL.out; omega)
          have hs := HSum.out j (by have := KL.out; omega)
          have hl3 := fn_lt s3 j
          have Q1 := Lib.hid r1
          have Q2 := Lib.hid r2
          clear x1 x2 r1 r2 hlt
          obtain ⟨V, hV⟩ : ∃ V, V = fn s3 j := ⟨_, rfl⟩
          rw [← hV] at hs hl3
          clear hV
          obtain ⟨X, hX⟩ : ∃ y, y = fn s1 j := ⟨_, rfl⟩
          obtain ⟨Y, hY⟩ : ∃ y, y = fn s2 j := ⟨_, rfl⟩
          rw [← hX] at y1 hs
          rw [← hY] at y2 hs
          have eV : (X : Int) + (Y : Int) = (V : Int) := by omega
          have HVL : Hid (V < 18446744073709551616) := hl3
          have uV : (V : Int) < 18446744073709551616 := by omega
          have HV : Hid (fn s1 j + fn s2 j = V) := by show _ = V; rw [← hX, ← hY]; exact hs
          clear hs hl3 hX hY
          go_wp2_with fail
          have L0 := fun q : WdB w5.heap.size wr.drew => cell_wdB' (show wr.drew.cell? _ = _ from y1) Q1.out q
          have L1 := fun q : WdB w5.heap.size wr.drew => cell_wdB' (show wr.drew.cell? _ = _ from y2) Q2.out q
          refine wp_region_lexB w5.heap.size [10, 11] (by kernel_rfl) (by kernel_rfl) (by kernel_rfl) ?_
          repeat (refine wpXL_quietB rfl rfl ?_; (first | go_big_quiet_step (fail) | quiet_step (fail)); refine wpQuiet_nil ?_)
          have BZ : Hid (w5.heap.size ≤ wr.drew.heap.size) := HBB.out.size
          refine wpXL_eff rfl rfl (.slice (some ⟨wr.drew.heap.size, 0, none⟩) 1 1) (wr.drew.alloc (.cells #[.int .u64 (V : Int)] 33)) (by go_simp) ((Below.refl _ _).alloc BZ.out _) ?_
          simp only [Act.put, List.setIfInBounds_toArray, List.set_cons_zero, List.set_cons_succ]
          repeat (refine wpXL_quietB rfl rfl ?_; (first | go_big_quiet_step (fail) | quiet_step (fail)); refine wpQuiet_nil ?_)
          have O5 : Hid (OwnE Enum (wr.drew.alloc (.cells #[.int .u64 (V : Int)] 33)) w5.heap.size (.slice pv j cv) (numsT (fun k => fn s1 k + fn s2 k) j)) := ownE_alloc (ownE_drew HO.out) _
          have B5 : Hid (w5.heap.size ≤ (wr.drew.alloc (.cells #[.int .u64 (V : Int)] 33)).heap.size) := by show _ ≤ _; have := HBB.out.size; simp; omega
          refine wpXL_appendE Knum rfl rfl (.tmp 124) (.tmp 134) rfl w5.heap.size _ (numsT (fun k => fn s1 k + fn s2 k) j) rfl O5.out _ [UInt64.ofNat V] rfl (nums_one _ HVL.out _ rfl) (by have := HLn.out; have := HN.out; have := HJT.out; simp; omega) B5.out (fun v' w' g => g.own O5.out B5.out) ?_
          intro v5 wq ho5 hg5
          have G5 : Hid (Below w5.heap.size w5 wq) := (HBB.out.trans (((belowD (Below.refl _ _) 1).mono HBB.out.size).trans (below1.mono BZ.out))).trans (hg5.own O5.out B5.out)
          have HO5 := Lib.hid ho5
          simp only [Act.put, List.setIfInBounds_toArray, List.set_cons_zero, List.set_cons_succ]
          clear ho5 hg5
          repeat (refine wpXL_quietB rfl rfl ?_; (first | go_big_quiet_step (fail) | quiet_step (fail)); refine wpQuiet_nil ?_)
          refine wpXL_nil ?_
          go_wp2_with fail
          go_roundw
          case rel => exact ⟨j + 1, HJT.out, by go_num, trivial, by rw [nums_succ, HV.out]; exact HO5.out, G5.out⟩
          case measure => simp [intOf]; have := HJT.out; omega
        · obtain rfl : j = n := by omega
          have eq : numsT (fun k => fn s1 k + fn s2 k) j = s3 := fn_ext (by rw [nums_len, F3.out, KL.out]) fun k hk => by
            have hk2 : k < j := by rw [← KL.out, ← F3.out]; exact hk
            have h3 := HSum.out k (by rw [KL.out]; exact hk2)
            rw [fn_nums hk2 (by show fn s1 k + fn s2 k < _; rw [h3]; exact fn_lt _ _)]
            exact h3
          have C1 := Lib.hid (ownE_slE HO.out)
          rw [eq] at C1
          have C3 := Lib.hid (slE_keep HBB.out R3.out)
          clear hlt
          have hs := ref08Same (.slice pv j cv) vc s3 s3 wr C1.out C3.out (by have := F3.out; have := KL.out; have := HN.out; omega)
          rw [decide_eq_true rfl] at hs
          go_wp2_with fail
          refine hs.mono ?_
          rintro e w9 ⟨rfl, g⟩
          have GE := Lib.hid (belowT (belowT A.out.g HBB.out) g)
          clear g hs eq
          go_wp2_with fail
          go_ret
          exact ⟨rfl, GE.out⟩
/-- The law. -/
theorem weightAddsL (HSu : SubC) (HPa : PassC) (HSa : SameC) (s : Tr) (l : List Nd) (v1 : Value) (a1 : List UInt64) (v2 : Value) (a2 : List UInt64) (w : World) (h : SlE Ene w (sv s.n) l) (h1 : SlE Enum w v1 a1) (h2 : SlE Enum w v2 a2) :
    Calls Try.prog 7 #[.agg (tr s), v1, v2] w fun e w' => e = .returned (.bool true) ∧ Below w.heap.size w w' := by
  obtain ⟨s⟩ := s
  have hn := sv_lenN h
  obtain ⟨p, n, cp⟩ := s
  have k1 := h1
  obtain ⟨q1, c1, rfl, _⟩ := slE_shape h1
  have k2 := h2
  obtain ⟨q2, c2, rfl, _⟩ := slE_shape h2
  exact weightAdds_n HSu HPa HSa p n cp l q1 _ c1 a1 q2 _ c2 a2 w h hn k1 rfl k2 rfl
end Go.Proofs.Ytonfmddjlhgglaa
