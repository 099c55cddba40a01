/-
  The document's trees: who is above whom, walked.
  The document's weights: Sub, walked.
-/
import Derived.Test.YtccihllcohnnnaaQ21
import Derived.Test.YtccihllcohnnnaaQ20
namespace Go.Proofs.Ytccihllcohnnnaa
open Go.RowKit
set_option maxRecDepth 100000

set_option maxRecDepth 100000 in
set_option maxHeartbeats 4000000 in
theorem refAbove (s : SlV) (l : List Nd) (i k : Int) (w : World) (h : SlE Ene w (sv s) l) (hn : l.length ≤ 1000) :
    Calls Try.prog 48 #[.agg (tr ⟨s⟩), .int .i64 i, .int .i64 k] w fun e w' => e = .returned (.bool (aboveZ l i k)) ∧ Below w.heap.size w w' := by
  have HI := Lib.hid (fun W (g : Below w.heap.size w W) => refIs s l i W (slE_keep g h) hn)
  have HK := Lib.hid (fun W (g : Below w.heap.size w W) => refIs s l k W (slE_keep g h) hn)
  have HL := Lib.hid (sv_lenN h)
  obtain ⟨p, n, cp⟩ := s
  dsimp only at HL
  obtain ⟨x, hx⟩ : ∃ x, x = aboveZ l i k := ⟨_, rfl⟩
  rw [← hx]
  have HX := Lib.hid hx
  obtain ⟨a, ha⟩ : ∃ a, a = isT l i := ⟨_, rfl⟩
  obtain ⟨b, hb⟩ : ∃ b, b = isT l k := ⟨_, rfl⟩
  rw [← ha] at HI
  rw [← hb] at HK
  obtain ⟨W0, hW0⟩ : ∃ W0, W0 = w.alloc (.cells (tr ⟨⟨p, n, cp⟩⟩) 24) := ⟨_, rfl⟩
  have HB : Hid (Below w.heap.size w W0) := by rw [hW0]; exact below1
  have M0 : Hid (W0.heap[w.heap.size]? = some (.cells (tr ⟨⟨p, n, cp⟩⟩) 24 (0, 0))) := by rw [hW0]; exact heap_alloc_last w _
  have HS := Lib.hid h
  have HW := Lib.hid hW0
  have HXF : Hid (a = false → x = false) := fun e => by rw [HX.out]; unfold aboveZ; rw [← ha, e]; rfl
  have HXG : Hid (b = false → x = false) := fun e => by rw [HX.out]; unfold aboveZ; rw [← hb, e, Bool.and_false]; rfl
  have HA := Lib.hid ha
  have HBB := Lib.hid hb
  clear hW0 h hn hx ha hb
  go_enter Try.func48, Try.ntmps48
  go_wp2_with fail
  rw [← HW.out]
  refine (HI.out W0 HB.out).mono ?_
  rintro e w1 ⟨rfl, g1⟩
  have G1 := Lib.hid g1
  obtain ⟨z0, z1, zl⟩ := tr_cells (blk_keep g1 M0.out)
  dsimp only at z0
  rw [sv_mk] at z0
  clear g1
  go_wp2_with fail
  refine (HK.out w1 (belowT HB.out G1.out)).mono ?_
  rintro e w2 ⟨rfl, g2⟩
  have G2 := Lib.hid (belowT (belowT HB.out G1.out) g2)
  have G3 := Lib.hid (belowT G1.out g2)
  clear z0 z1 zl g2
  obtain ⟨z0, z1, zl⟩ := tr_cells (blk_keep G3.out M0.out)
  dsimp only at z0
  rw [sv_mk] at z0
  cases a
  · have hX : Hid (x = false) := HXF.out rfl
    go_wp2_with fail
    go_ret
    exact ⟨by rw [hX.out]; first | done | rfl, G2.out⟩
  · cases b
    · have hX : Hid (x = false) := HXG.out rfl
      go_wp2_with fail
      go_ret
      exact ⟨by rw [hX.out]; first | done | rfl, G2.out⟩
    · obtain ⟨hm, hi0, hi1⟩ := isT_iff.1 HA.out.symm
      obtain ⟨_, hk0, hk1⟩ := isT_iff.1 HBB.out.symm
      obtain ⟨i', rfl⟩ : ∃ i' : Nat, i = i' := ⟨i.toNat, by omega⟩
      obtain ⟨k', rfl⟩ : ∃ k' : Nat, k = k' := ⟨k.toNat, by omega⟩
      have HX' : Hid (x = aboveT l i' k') := by show x = _; rw [HX.out, aboveZ_nat hm (by omega) (by omega)]
      have HM := Lib.hid hm
      have HI1 : Hid (i' < n) := by show i' < n; have := HL.out; omega
      have HK1 : Hid (k' < n) := by show k' < n; have := HL.out; omega
      clear hi0 hi1 hk0 hk1 HXF HXG HX HA HBB HI HK
      obtain ⟨b1, o1, rfl, q1, x1⟩ := slE_ptr HS.out hm.pos
      have X1 := Lib.hid (keepR G2.out x1)
      clear hm x1
      have u0 : (i' : Int) < 10000 := by have := HI1.out; have := HM.out.le; have := HL.out; omega
      have u00 : (0 : Int) ≤ (i' : Int) := by omega
      go_wp2_with fail
      go_loop [2] (fun v => ∃ m : Nat, m < n ∧ v = .int .i64 (m : Int) ∧ aboveT l i' m = aboveT l i' k') (fun v => (intOf v).toNat)
      case atStart => exact ⟨k', HK1.out, rfl, rfl⟩
      case round =>
        obtain ⟨m, hmn, rfl, hab⟩ := hrel
        have HAB := Lib.hid hab
        have HMN := Lib.hid hmn
        clear hab hmn
        have u1 : (m : Int) < (n : Int) := by have := HMN.out; omega
        have u2 : (0 : Int) ≤ (m : Int) := by omega
        by_cases hlt : i' < m
        · have t1 : decide ((i' : Int) < (m : Int)) = true := by rw [decide_eq_true_iff]; omega
          obtain ⟨hp, hu, _⟩ := HM.out.par (k := m) (by omega) (by have := HL.out; have := HMN.out; omega)
          have y1 := nds_par X1.out (i := m) (by have := HL.out; have := HMN.out; omega)
          rw [hp] at y1
          have HU := Lib.hid hu
          have HLT := Lib.hid hlt
          clear hp hu hlt
          go_wp2_with fail
          go_round
          case rel => exact ⟨up l m, by have := HU.out; have := HMN.out; omega, rfl, by
            rw [← HAB.out, above_up HM.out i' (k := m) (by have := HLT.out; omega) (by have := HL.out; have := HMN.out; omega), if_pos HLT.out]⟩
          case measure => have := HU.out; simp [intOf]; omega
        · have t1 : decide ((i' : Int) < (m : Int)) = false := by rw [decide_eq_false_iff_not]; omega
          have t1' : decide (i' < m) = false := decide_eq_false hlt
          have HR : Hid (x = ((m : Int) == (i' : Int))) := by
            show x = _
            rw [HX'.out, ← HAB.out, above_stop HM.out (by have := HL.out; have := HMN.out; omega) hlt, Bool.eq_iff_iff, decide_eq_true_iff, beq_iff_eq]
            omega
          clear hlt
          go_wp2_with fail
          go_ret
          exact ⟨by rw [HR.out]; first | done | rfl, G2.out⟩
end Go.Proofs.Ytccihllcohnnnaa
namespace Go.Proofs.Ytccihllcohnnnaa
open Go.RowKit
set_option maxRecDepth 100000

set_option maxRecDepth 100000 in
set_option maxHeartbeats 8000000 in
theorem ref08Sub_no (p q : Option Addr) (n cp m cq : Nat) (l : List Nd) (w : World) (h : SlE Ene w (.slice p n cp) l) (hl : l.length = n) (hn : n ≤ 1000) (hk : ¬ (MayT l ∧ m = n)) :
    Calls Try.prog 27 #[.agg (tr ⟨⟨p, n, cp⟩⟩), .slice q m cq] w (NumsOk [] false w) := by
  have HM := Lib.hid (fun W (g : Below w.heap.size w W) => refMayT ⟨p, n, cp⟩ l W (slE_keep g h) (by omega))
  obtain ⟨W0, hW0⟩ : ∃ W0, W0 = w.alloc (.cells (tr ⟨⟨p, n, cp⟩⟩) 24) := ⟨_, rfl⟩
  have HB : Hid (Below w.heap.size w W0) := by rw [hW0]; exact below1
  have M0 : Hid (W0.heap[w.heap.size]? = some (.cells (tr ⟨⟨p, n, cp⟩⟩) 24 (0, 0))) := by rw [hW0]; exact heap_alloc_last w _
  have HW := Lib.hid hW0
  obtain ⟨r, hr⟩ : ∃ r, r = decide (MayT l) := ⟨_, rfl⟩
  rw [← hr] at HM
  have HK : Hid (r = true → ((m : Int) != (n : Int)) = true) := fun e => by
    rw [bne_iff_ne]
    intro e2
    exact hk ⟨of_decide_eq_true (hr.symm.trans e), by omega⟩
  clear hW0 h hl hn hk hr
  go_enter Try.func27, Try.ntmps27
  go_wp2_with fail
  rw [← HW.out]
  refine (HM.out W0 HB.out).mono ?_
  rintro e w1 ⟨rfl, g1⟩
  have G1 := Lib.hid (belowT HB.out g1)
  obtain ⟨z0, z1, zl⟩ := tr_cells (blk_keep g1 M0.out)
  dsimp only at z0
  rw [sv_mk] at z0
  clear g1
  cases r
  · go_wp2_with fail
    go_ret2
    exact ⟨_, rfl, ownE_nil _ _ _, G1.out⟩
  · have t1 := HK.out rfl
    go_wp2_with fail
    go_ret2
    exact ⟨_, rfl, ownE_nil _ _ _, G1.out⟩

set_option maxRecDepth 100000 in
set_option maxHeartbeats 16000000 in
theorem ref08Sub_yes (p q : Option Addr) (n cp cq : Nat) (l : List Nd) (a : List UInt64) (w : World) (h : SlE Ene w (.slice p n cp) l) (h' : SlE Enum w (.slice q n cq) a) (hl : l.length = n) (ha : a.length = n) (hm : MayT l) :
    Calls Try.prog 27 #[.agg (tr ⟨⟨p, n, cp⟩⟩), .slice q n cq] w (NumsOk (subL l a) (subOk l a) w) := by
  have HM : Hid (∀ W, Below w.heap.size w W → Calls Try.prog 44 #[.agg (tr ⟨⟨p, n, cp⟩⟩)] W fun e w' => e = .returned (.bool true) ∧ Below W.heap.size W w') := fun W g => by
    have := refMayT ⟨p, n, cp⟩ l W (slE_keep g h) (by have := hm.le; omega)
    rwa [decide_eq_true hm] at this
  have HAb : Hid (∀ W, Below w.heap.size w W → ∀ i k : Nat, i < n → k < n → Calls Try.prog 48 #[.agg (tr ⟨⟨p, n, cp⟩⟩), .int .i64 (i : Int), .int .i64 (k : Int)] W fun e w' => e = .returned (.bool (aboveT l i k)) ∧ Below W.heap.size W w') := fun W g i k hi hk => by
    have := refAbove ⟨p, n, cp⟩ l (i : Int) (k : Int) W (slE_keep g h) (by have := hm.le; omega)
    rwa [aboveZ_nat hm (by omega) (by omega)] at this
  obtain ⟨W0, hW0⟩ : ∃ W0, W0 = w.alloc (.cells (tr ⟨⟨p, n, cp⟩⟩) 24) := ⟨_, rfl⟩
  have HB : Hid (Below w.heap.size w W0) := by rw [hW0]; exact below1
  have M0 : Hid (W0.heap[w.heap.size]? = some (.cells (tr ⟨⟨p, n, cp⟩⟩) 24 (0, 0))) := by rw [hW0]; exact heap_alloc_last w _
  have HW := Lib.hid hW0
  have HL := Lib.hid hl
  have HMm := Lib.hid hm
  have HN : Hid (n ≤ 12) := by show n ≤ 12; have := hm.le; omega
  have HLA := Lib.hid ha
  obtain ⟨b2, o2, rfl, q2, x2⟩ := nums_ptr h' (by have := hm.pos; omega)
  have X2 := Lib.hid x2
  have t0 : ((n : Int) != (n : Int)) = false := by simp
  obtain ⟨ok, hok⟩ : ∃ ok, ok = subOk l a := ⟨_, rfl⟩
  have HOK := Lib.hid hok
  rw [← hok]
  clear hW0 h h' hl ha hm q2 x2 hok
  go_enter Try.func27, Try.ntmps27
  go_wp2_with fail
  rw [← HW.out]
  refine (HM.out W0 HB.out).mono ?_
  rintro e w1 ⟨rfl, g1⟩
  have G1 := Lib.hid (belowT HB.out g1)
  have M1 := Lib.hid (blk_keep g1 M0.out)
  obtain ⟨z0, z1, zl⟩ := tr_cells M1.out
  dsimp only at z0
  rw [sv_mk] at z0
  clear g1
  go_wp2_with fail
  go_loopw [7, 8] (fun v i wr => ∃ j : Nat, j ≤ n ∧ i = .int .i64 (j : Int) ∧ (∀ x, x < j → subT l (fn a) x < 18446744073709551616) ∧ OwnE Enum wr w1.heap.size v (numsT (subT l (fn a)) j) ∧ Below w1.heap.size w1 wr) (fun _ i _ => n - (intOf i).toNat)
  case atStart => exact ⟨0, Nat.zero_le _, rfl, fun x hx => absurd hx (Nat.not_lt_zero _), ownE_nil _ _ _, Below.refl _ _⟩
  case round =>
    obtain ⟨i, hi, rfl, hx, hown, hb⟩ := hrel
    obtain ⟨wo, rfl⟩ : ∃ wo : World, wo = wr := ⟨_, rfl⟩
    have HX := Lib.hid hx
    have HO := Lib.hid hown
    have HBB := Lib.hid hb
    obtain ⟨pv, cv, rfl⟩ := ownE_len hown (nums_len _ i)
    clear hx hown hb
    by_cases hlt : i < n
    · have i0 : (0 : Int) ≤ (i : Int) := by omega
      have i1 : (i : Int) < (n : Int) := by omega
      have u1 : (i : Int) + 1 < 10000 := by have := HN.out; omega
      have HLT := Lib.hid hlt
      have HLn := Lib.hid (nums_len (subT l (fn a)) i)
      clear hlt
      go_wp2_with fail
      go_loopw [9, 10] (fun s k wr => ∃ j : Nat, j ≤ n ∧ k = .int .i64 (j : Int) ∧ s = .int .u64 (partW l a i j : Int) ∧ partW l a i j < 18446744073709551616 ∧ Below wo.heap.size wo wr) (fun _ k _ => n - (intOf k).toNat)
      case atStart => exact ⟨0, Nat.zero_le _, rfl, rfl, by rw [partW_zero]; omega, Below.refl _ _⟩
      case round =>
        obtain ⟨j, hj, rfl, rfl, hs, hb⟩ := hrel
        have HS := Lib.hid hs
        have HI := Lib.hid hb
        clear hs hb
        by_cases hjt : j < n
        · have j0 : (0 : Int) ≤ (j : Int) := by omega
          have j1 : (j : Int) < (n : Int) := by omega
          have v1 : (j : Int) + 1 < 10000 := by have := HN.out; omega
          have HJT := Lib.hid hjt
          clear z0 z1 zl
          obtain ⟨z0, z1, zl⟩ := tr_cells (blk_keep (belowT HBB.out HI.out) M1.out)
          dsimp only at z0
          rw [sv_mk] at z0
          have HC := Lib.hid (HAb.out wr (belowT G1.out (belowT HBB.out HI.out)) i j HLT.out hjt)
          obtain ⟨r, hr⟩ : ∃ r, r = aboveT l i j := ⟨_, rfl⟩
          rw [← hr] at HC
          have HR := Lib.hid hr
          clear hjt hr
          go_wp2_with fail
          refine HC.out.mono ?_
          rintro e w3 ⟨rfl, g3⟩
          have G3 := Lib.hid (belowT HI.out g3)
          clear g3 z0 z1 zl
          cases r
          · have HE : Hid (partW l a i (j + 1) = partW l a i j) := partW_no HR.out.symm
            go_wp2_with fail
            go_roundw
            case rel => exact ⟨j + 1, HJT.out, by go_num, by rw [HE.out], by rw [HE.out]; exact HS.out, G3.out⟩
            case measure => simp [intOf]; have := HJT.out; omega
          · have HE : Hid (partW l a i (j + 1) = partW l a i j + fn a j) := partW_yes HR.out.symm
            have y1 := nums_cell (keepR (belowT G1.out (belowT HBB.out G3.out)) X2.out) (i := j) (by have := HLA.out; have := HJT.out; omega)
            obtain ⟨x, hx⟩ : ∃ x, x = partW l a i j := ⟨_, rfl⟩
            obtain ⟨y, hy⟩ : ∃ y, y = fn a j := ⟨_, rfl⟩
            rw [← hx, ← hy] at HE
            rw [← hy] at y1
            rw [← hx]
            have HA := Lib.hid (ref01Add x y (by rw [hx]; exact HS.out) (by rw [hy]; exact fn_lt _ _) w3)
            clear hx hy
            go_wp2_with fail
            refine HA.out.mono ?_
            rintro e w4 ⟨rfl, g4⟩
            have G4 := Lib.hid (belowT G3.out g4)
            clear g4 y1
            by_cases hf : x + y < 18446744073709551616
            · rw [show addOk x y = true from decide_eq_true hf, show addV x y = x + y from if_pos hf]
              have HF := Lib.hid hf
              clear hf
              go_wp2_with fail
              go_roundw
              case rel => exact ⟨j + 1, HJT.out, by go_num, by rw [HE.out, Int.natCast_add], by rw [HE.out]; exact HF.out, G4.out⟩
              case measure => simp [intOf]; have := HJT.out; omega
            · have hO : Hid (ok = false) := by
                show ok = false
                rw [HOK.out, ← Bool.not_eq_true]
                intro e
                have h1 := (subOk_iff.1 e).2.2 i (by have := HL.out; have := HLT.out; omega)
                have h2 := partW_le (l := l) (a := a) (i := i) (k := j + 1) (by have := HL.out; have := HJT.out; omega)
                have := HE.out
                omega
              rw [show addOk x y = false from decide_eq_false hf]
              clear hf
              go_wp2_with fail
              go_ret2
              exact ⟨_, by rw [hO.out]; first | done | rfl, by rw [subL_no (by rw [← HOK.out]; exact hO.out)]; exact ownE_nil _ _ _, belowT G1.out (belowT HBB.out G4.out)⟩
        · obtain rfl : j = n := by omega
          have HE : Hid (partW l a i j = subT l (fn a) i) := by show partW l a i j = subT l (fn a) i; rw [← partW_all, HL.out]
          have O3 := Lib.hid (ownE_keep HI.out HO.out)
          obtain ⟨x, hx⟩ : ∃ x, x = partW l a i j := ⟨_, rfl⟩
          rw [← hx] at HE
          rw [← hx]
          have HXs : Hid (x < 18446744073709551616) := by show x < _; rw [hx]; exact HS.out
          clear hjt hx
          go_wp2_with (at_builtin; refine wpList_append_E Knum _ rfl (.tmp 55) (.tmp 57) rfl w1.heap.size _ (numsT (subT l (fn a)) i) rfl (ownE_alloc O3.out _) _ [UInt64.ofNat x] rfl (nums_one _ HXs.out _ rfl) (by have := HLn.out; have := HN.out; have := HLT.out; simp; omega) (by have := HBB.out.size; have := HI.out.size; simp; omega) ?_; intro v2 w4 ho4 hg4)
          go_roundw
          case rel =>
            refine ⟨i + 1, HLT.out, by go_num, fun x' hx' => ?_, by rw [nums_succ, ← HE.out]; exact ho4, (belowT HBB.out (belowT HI.out below1)).trans (hg4.own (ownE_alloc O3.out _) (by have := HBB.out.size; have := HI.out.size; simp; omega))⟩
            rcases Nat.lt_succ_iff_lt_or_eq.1 hx' with h | rfl
            · exact HX.out x' h
            · rw [← HE.out]; exact HXs.out
          case measure => simp [intOf]; have := HLT.out; omega
    · obtain rfl : i = n := by omega
      have hO : Hid (ok = true) := by
        show ok = true
        rw [HOK.out]
        exact subOk_iff.2 ⟨HMm.out, by rw [HLA.out, HL.out], fun x hx => HX.out x (by have := HL.out; omega)⟩
      clear hlt
      go_wp2_with fail
      go_ret2
      exact ⟨_, by rw [hO.out]; first | done | rfl, by rw [subL_yes (by rw [← HOK.out]; exact hO.out), HL.out]; exact ownE_base HO.out G1.out.size, belowT G1.out HBB.out⟩
/-- Sub. -/
theorem ref08Sub (s : SlV) (v : Value) (l : List Nd) (a : List UInt64) (w : World) (h : SlE Ene w (sv s) l) (h' : SlE Enum w v a) (hn : l.length ≤ 1000) :
    Calls Try.prog 27 #[.agg (tr ⟨s⟩), v] w (NumsOk (subL l a) (subOk l a) w) := by
  have hl := sv_lenN h
  obtain ⟨p, n, cp⟩ := s
  dsimp only at hl
  obtain ⟨q, cq, e, _⟩ := slE_shape h'
  by_cases hk : MayT l ∧ a.length = n
  · rw [hk.2] at e
    subst e
    exact ref08Sub_yes p q n cp cq l a w h h' hl hk.2 hk.1
  · have hO : subOk l a = false := by
      rw [← Bool.not_eq_true]
      intro e
      exact hk ⟨(subOk_iff.1 e).1, by rw [(subOk_iff.1 e).2.1, hl]⟩
    rw [subL_no hO, hO]
    subst e
    exact ref08Sub_no p q n cp a.length cq l w h hl (by omega) hk
theorem enters_ref08Sub : ∀ args w, (callFunc 27 args).run Try.prog w = .ok (.enter 27 args) w := entersE Try.func27 (by kernel_rfl) (by kernel_rfl)
end Go.Proofs.Ytccihllcohnnnaa
