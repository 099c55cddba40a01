/-
  What votes weigh: Own, the document's own, walked.
  Sums and differences that are told, or not; no word of the program.
  The document's own sums of two numbers.
  The document's trees: whether a place is one, walked.
-/
import Derived.Test.YtccihllcohnnnaaQ20
import Derived.Test.YtccihllcohnnnaaQ06
import Derived.Test.YtccihllcohnnnaaQ16
import Derived.Test.YtccihllcohnnnaaQ18
namespace Go.Proofs.Ytccihllcohnnnaa
open Go.RowKit
set_option maxRecDepth 100000

set_option maxRecDepth 100000 in
set_option maxHeartbeats 16000000 in
theorem ref14Own_yes (p q r : Option Addr) (n cp m cq cr : Nat) (l : List Nd) (v : Vt) (bal : List UInt64) (w : World) (h : SlE Ene w (.slice p n cp) l) (h1 : SlE Elt w (.slice q m cq) v.l) (h2 : SlE Enum w (.slice r m cr) bal) (hl : l.length = n) (hv : v.l.length = m) (hb : bal.length = m) (hf : fitB l v bal = true) :
    Calls Try.prog 11 #[.agg (tr ⟨⟨p, n, cp⟩⟩), .agg (vo ⟨⟨q, m, cq⟩, v.out⟩), .slice r m cr] w (NumsOk (ownL l v bal) true w) := by
  obtain ⟨hmt, hmv, hmb, _⟩ := fit_iff.1 hf
  have HF : Hid (∀ W, Below w.heap.size w W → Calls Try.prog 25 #[.agg (tr ⟨⟨p, n, cp⟩⟩), .agg (vo ⟨⟨q, m, cq⟩, v.out⟩), .slice r m cr] W fun e w' => e = .returned (.bool true) ∧ Below W.heap.size W w') := fun W g => by
    have := ref14Fit_n p q r n cp m cq m cr l v bal W (slE_keep g h) (slE_keep g h1) (slE_keep g h2) hl hv hb (by have := hmt.le; omega) (by have := (mayB_iff.1 hmb).2.1; omega) (by have := (mayB_iff.1 hmb).2.1; omega)
    rwa [hf] at this
  obtain ⟨W0, hW0⟩ : ∃ W0, W0 = (w.alloc (.cells (tr ⟨⟨p, n, cp⟩⟩) 24)).alloc (.cells (vo ⟨⟨q, m, cq⟩, v.out⟩) 28) := ⟨_, rfl⟩
  obtain ⟨hB, k0, k1, hz0⟩ := heap2 w _ _ _ _ W0 hW0
  have HB := Lib.hid hB
  have HW := Lib.hid hW0
  have K0 := Lib.hid k0
  have K1 := Lib.hid k1
  have HL := Lib.hid hl
  have HLV := Lib.hid hv
  have HLB := Lib.hid hb
  have HN : Hid (n ≤ 12 ∧ m ≤ 8) := by show n ≤ 12 ∧ m ≤ 8; have := hmt.le; have := (mayB_iff.1 hmb).2.1; omega
  have HMB := Lib.hid hmb
  obtain ⟨b0, o0, rfl, _, x0⟩ := slE_ptr h hmt.pos
  obtain ⟨b1, o1, rfl, _, x1⟩ := lats_ptr h1 (by have := (mayV_iff.1 hmv).1; omega)
  obtain ⟨b2, o2, rfl, _, x2⟩ := nums_ptr h2 (by have := (mayV_iff.1 hmv).1; omega)
  have X0 := Lib.hid x0
  have X1 := Lib.hid x1
  have X2 := Lib.hid x2
  have HE : Hid (ownL l v bal = numsT (ownF l v bal) n) := by show _ = _; rw [ownL_yes hf, hl]
  clear hW0 h h1 h2 hl hv hb hf hB k0 k1 hz0 x0 x1 x2 hmt hmv hmb
  go_enter Try.func11, Try.ntmps11
  have z1 := (tr_cells K0.out).2.1
  have y1 := (vo_cells K1.out).2.2.1
  go_wp2_with fail
  rw [← HW.out]
  go_wp2_with fail
  refine (HF.out W0 HB.out).mono ?_
  rintro e w1 ⟨rfl, g1⟩
  have G1 := Lib.hid (belowT HB.out g1)
  have M1 := Lib.hid (blk_keep g1 K0.out)
  have N1 := Lib.hid (blk_keep g1 K1.out)
  clear g1 z1 y1
  go_wp2_with fail
  go_loopw [9, 10] (fun u i wr => ∃ j : Nat, j ≤ n ∧ i = .int .i64 (j : Int) ∧ OwnE Enum wr w1.heap.size u (numsT (ownF l v bal) j) ∧ Below w1.heap.size w1 wr) (fun _ i _ => n - (intOf i).toNat)
  case atStart => exact ⟨0, Nat.zero_le _, rfl, ownE_nil _ _ _, Below.refl _ _⟩
  case round =>
    obtain ⟨i, hi, rfl, hown, hb⟩ := hrel
    obtain ⟨wo, rfl⟩ : ∃ wo : World, wo = wr := ⟨_, rfl⟩
    have HO := Lib.hid hown
    have HBB := Lib.hid hb
    obtain ⟨pv, cv, rfl⟩ := ownE_len hown (nums_len _ i)
    obtain ⟨z0, z1, zl⟩ := tr_cells (blk_keep hb M1.out)
    dsimp only at z0
    rw [sv_mk] at z0
    clear hown hb z1 zl
    by_cases hlt : i < n
    · have i0 : (0 : Int) ≤ (i : Int) := by omega
      have i1 : (i : Int) < (n : Int) := by omega
      have u1 : (i : Int) + 1 < 10000 := by have := HN.out.1; omega
      have HLT := Lib.hid hlt
      have HLn := Lib.hid (nums_len (ownF l v bal) i)
      clear hlt
      go_wp2_with fail
      clear z0
      go_loopw [11, 12] (fun s k wr => ∃ j : Nat, j ≤ m ∧ k = .int .i64 (j : Int) ∧ s = .int .u64 (selF (forB l v i) (fn bal) j : Int) ∧ Below wo.heap.size wo wr) (fun _ k _ => m - (intOf k).toNat)
      case atStart => exact ⟨0, Nat.zero_le _, rfl, rfl, Below.refl _ _⟩
      case round =>
        obtain ⟨j, hj, rfl, rfl, hb⟩ := hrel
        have HI := Lib.hid hb
        clear hb
        by_cases hjt : j < m
        · have j0 : (0 : Int) ≤ (j : Int) := by omega
          have j1 : (j : Int) < (m : Int) := by omega
          have v1 : (j : Int) + 1 < 10000 := by have := HN.out.2; omega
          have HJT := Lib.hid hjt
          have GW := Lib.hid (belowT G1.out (belowT HBB.out HI.out))
          obtain ⟨z0, z1, zl⟩ := tr_cells (blk_keep (belowT HBB.out HI.out) M1.out)
          dsimp only at z0
          rw [sv_mk] at z0
          have y0 := (vo_cells (blk_keep (belowT HBB.out HI.out) N1.out)).1
          dsimp only at y0
          rw [sv_mk] at y0
          have yh := lats_has (keepR GW.out X1.out) (i := j) (by have := HLV.out; omega)
          have yr := lats_root (keepR GW.out X1.out) (i := j) (by have := HLV.out; omega)
          have yn := nds_root (keepR GW.out X0.out) (i := i) (by have := HL.out; have := HLT.out; omega)
          have yb := nums_cell (keepR GW.out X2.out) (i := j) (by have := HLB.out; omega)
          have hs1 := sel_small HMB.out (forB l v i) (k := j) (by have := HLB.out; omega)
          have hs2 := sel_small HMB.out (fun k => decide (k = j)) (k := j + 1) (by have := HLB.out; omega)
          have hs3 : fn bal j ≤ 1099511627776 := (mayB_iff.1 HMB.out).2.2 j (by have := HLB.out; omega)
          obtain ⟨H, hH⟩ : ∃ H, H = (lat v.l j).has := ⟨_, rfl⟩
          obtain ⟨E, hE⟩ : ∃ E, E = decide ((lat v.l j).root = (nd l i).root) := ⟨_, rfl⟩
          rw [← hH] at yh
          have HF2 : Hid (forB l v i j = (H && E)) := by show forB l v i j = _; unfold forB; rw [hH, hE]
          have HX2 : Hid (∀ x : Nat, x = selF (forB l v i) (fn bal) j → x ≤ 8796093022208) := fun x hx => by rw [hx]; exact hs1
          obtain ⟨X, hX⟩ : ∃ X, X = selF (forB l v i) (fn bal) j := ⟨_, rfl⟩
          obtain ⟨Y, hY⟩ : ∃ Y, Y = fn bal j := ⟨_, rfl⟩
          rw [← hX] at hs1
          rw [← hY] at hs3 yb
          have HSy : Hid (forB l v i j = true → selF (forB l v i) (fn bal) (j + 1) = X + Y) := fun e => by rw [hX, hY]; exact selF_yes e
          have HSn : Hid (forB l v i j = false → selF (forB l v i) (fn bal) (j + 1) = X) := fun e => by rw [hX]; exact selF_no e
          rw [← hX]
          generalize (lat v.l j).root = R1 at *
          generalize (nd l i).root = R2 at *
          have tE : eqB R1 R2 = E := hE.symm
          have hU : Unit → (X : Int) + (Y : Int) < 18446744073709551616 := fun _ => by omega
          clear hjt hs1 hs2 hs3 hX hY hH hE z1 zl HX2
          cases H
          · have HEn : Hid (selF (forB l v i) (fn bal) (j + 1) = X) := HSn.out (by rw [HF2.out]; rfl)
            go_wp2_with fail
            go_quiet (fail)
            go_wp2_with fail
            go_roundw
            case rel => exact ⟨j + 1, HJT.out, by go_num, by rw [HEn.out], belowD HI.out _⟩
            case measure => simp [intOf]; have := HJT.out; omega
          · cases E
            · have HEn : Hid (selF (forB l v i) (fn bal) (j + 1) = X) := HSn.out (by rw [HF2.out]; rfl)
              go_wp2_with fail
              go_quiet (fail)
              go_wp2_with fail
              go_roundw
              case rel => exact ⟨j + 1, HJT.out, by go_num, by rw [HEn.out], belowD HI.out _⟩
              case measure => simp [intOf]; have := HJT.out; omega
            · have HEn : Hid (selF (forB l v i) (fn bal) (j + 1) = X + Y) := HSy.out (by rw [HF2.out]; rfl)
              go_wp2_with fail
              go_quiet (fail)
              go_wp2_with fail
              go_roundw
              case rel => exact ⟨j + 1, HJT.out, by go_num, by rw [HEn.out, IntKind.wrap_u64, Int.natCast_add, Int.emod_eq_of_lt (by omega) (hU ())], belowD HI.out _⟩
              case measure => simp [intOf]; have := HJT.out; omega
        · obtain rfl : j = m := by omega
          have HEv : Hid (selF (forB l v i) (fn bal) j = ownF l v bal i) := by show selF _ _ j = _; rw [← HLB.out]; rfl
          have O3 := Lib.hid (ownE_keep HI.out HO.out)
          have hs1 := sel_small HMB.out (forB l v i) (k := j) (by have := HLB.out; omega)
          obtain ⟨x, hx⟩ : ∃ x, x = selF (forB l v i) (fn bal) j := ⟨_, rfl⟩
          rw [← hx] at HEv hs1
          rw [← hx]
          have HXs : Hid (x < 18446744073709551616) := by show x < _; omega
          clear hjt hx hs1
          go_wp2_with (at_builtin; refine wpList_append_E Knum _ rfl (.tmp 59) (.tmp 61) rfl w1.heap.size _ (numsT (ownF l v bal) i) rfl (ownE_alloc O3.out _) _ [UInt64.ofNat x] rfl (nums_one _ HXs.out _ rfl) (by have := HLn.out; have := HN.out.1; have := HLT.out; simp; omega) (by have := HBB.out.size; have := HI.out.size; simp; omega) ?_; intro v2 w4 ho4 hg4)
          go_roundw
          case rel => exact ⟨i + 1, HLT.out, by go_num, by rw [nums_succ, ← HEv.out]; exact ho4, (belowT HBB.out (belowT HI.out below1)).trans (hg4.own (ownE_alloc O3.out _) (by have := HBB.out.size; have := HI.out.size; simp; omega))⟩
          case measure => simp [intOf]; have := HLT.out; omega
    · obtain rfl : i = n := by omega
      clear hlt
      go_wp2_with fail
      go_ret2
      exact ⟨_, rfl, by rw [HE.out]; exact ownE_base HO.out G1.out.size, belowT G1.out HBB.out⟩
set_option maxRecDepth 100000 in
set_option maxHeartbeats 16000000 in
theorem ref14Own_no (p q r : Option Addr) (n cp m cq k cr : Nat) (l : List Nd) (v : Vt) (bal : List UInt64) (w : World) (h : SlE Ene w (.slice p n cp) l) (h1 : SlE Elt w (.slice q m cq) v.l) (h2 : SlE Enum w (.slice r k cr) bal) (hl : l.length = n) (hv : v.l.length = m) (hb : bal.length = k) (hn : n ≤ 1000) (hm : m ≤ 1000) (hk : k ≤ 1000) (hf : fitB l v bal = false) :
    Calls Try.prog 11 #[.agg (tr ⟨⟨p, n, cp⟩⟩), .agg (vo ⟨⟨q, m, cq⟩, v.out⟩), .slice r k cr] w (NumsOk [] false w) := by
  have HF : Hid (∀ W, Below w.heap.size w W → Calls Try.prog 25 #[.agg (tr ⟨⟨p, n, cp⟩⟩), .agg (vo ⟨⟨q, m, cq⟩, v.out⟩), .slice r k cr] W fun e w' => e = .returned (.bool false) ∧ Below W.heap.size W w') := fun W g => by
    have := ref14Fit_n p q r n cp m cq k cr l v bal W (slE_keep g h) (slE_keep g h1) (slE_keep g h2) hl hv hb hn hm hk
    rwa [hf] at this
  obtain ⟨W0, hW0⟩ : ∃ W0, W0 = (w.alloc (.cells (tr ⟨⟨p, n, cp⟩⟩) 24)).alloc (.cells (vo ⟨⟨q, m, cq⟩, v.out⟩) 28) := ⟨_, rfl⟩
  obtain ⟨hB, k0, k1, hz0⟩ := heap2 w _ _ _ _ W0 hW0
  have HB := Lib.hid hB
  have HW := Lib.hid hW0
  have z1 := (tr_cells k0).2.1
  have y1 := (vo_cells k1).2.2.1
  clear hW0 h h1 h2 hl hv hb hf hB k0 k1 hz0 hn hm hk
  go_enter Try.func11, Try.ntmps11
  go_wp2_with fail
  rw [← HW.out]
  go_wp2_with fail
  refine (HF.out W0 HB.out).mono ?_
  rintro e w1 ⟨rfl, g1⟩
  have G1 := Lib.hid (belowT HB.out g1)
  clear g1 z1 y1
  go_wp2_with fail
  go_ret2
  exact ⟨_, rfl, ownE_nil _ _ _, G1.out⟩
theorem ref14Own (s t : SlV) (u : Value) (l : List Nd) (v : Vt) (bal : List UInt64) (w : World) (h : SlE Ene w (sv s) l) (h1 : SlE Elt w (sv t) v.l) (h2 : SlE Enum w u bal) (hn : l.length ≤ 1000) (hm : v.l.length ≤ 1000) (hk : bal.length ≤ 1000) :
    Calls Try.prog 11 #[.agg (tr ⟨s⟩), .agg (vo ⟨t, v.out⟩), u] w (NumsOk (ownL l v bal) (fitB l v bal) w) := by
  have hl := sv_lenN h
  have hv := sv_lenT h1
  obtain ⟨p, n, cp⟩ := s
  obtain ⟨q, m, cq⟩ := t
  dsimp only at hl hv
  obtain ⟨r, cr, rfl, _⟩ := slE_shape h2
  by_cases hf : fitB l v bal = true
  · have e := (fit_iff.1 hf).2.2.2
    rw [hf]
    have e2 : bal.length = m := e.symm.trans hv
    rw [e2] at h2 ⊢
    exact ref14Own_yes p q r n cp m cq cr l v bal w h h1 h2 hl hv e2 hf
  · have hf' : fitB l v bal = false := by simpa using hf
    rw [hf', ownL_no hf']
    exact ref14Own_no p q r n cp m cq _ cr l v bal w h h1 h2 hl hv rfl (by omega) (by omega) hk hf'
theorem enters_ref14Own : ∀ args w, (callFunc 11 args).run Try.prog w = .ok (.enter 11 args) w := entersE Try.func11 (by kernel_rfl) (by kernel_rfl)
end Go.Proofs.Ytccihllcohnnnaa
namespace Go.Proofs.Ytccihllcohnnnaa
set_option maxRecDepth 100000

def addOk (a b : Nat) : Bool := decide (a + b < 18446744073709551616)
def addV (a b : Nat) : Nat := if a + b < 18446744073709551616 then a + b else 0
def lessOk (a b : Nat) : Bool := decide (b ≤ a)
def lessV (a b : Nat) : Nat := if b ≤ a then a - b else 0
def oneV (a b c : Nat) : Nat := if oneOk a b c = true then a + b - c else 0
end Go.Proofs.Ytccihllcohnnnaa
namespace Go.Proofs.Ytccihllcohnnnaa
open Go.RowKit
set_option maxRecDepth 100000

set_option maxHeartbeats 1000000 in
theorem ref01Add (a b : Nat) (ha : a < 18446744073709551616) (hb : b < 18446744073709551616) (w : World) :
    Calls Try.prog 49 #[.int .u64 (a : Int), .int .u64 (b : Int)] w fun e w' => e = .returned (.tuple #[.int .u64 (addV a b : Int), .bool (addOk a b)]) ∧ Below w.heap.size w w' := by
  have hb1 : (0 : Int) ≤ 18446744073709551615 - (b : Int) := by omega
  have ua : (a : Int) < 18446744073709551616 := by omega
  have ub : (b : Int) < 18446744073709551616 := by omega
  by_cases h : a + b < 18446744073709551616
  · rw [show addV a b = a + b from if_pos h, show addOk a b = true from decide_eq_true h]
    have t1 : decide (18446744073709551615 - (b : Int) < (a : Int)) = false := decide_eq_false (by omega)
    have u1 : (a : Int) + (b : Int) < 18446744073709551616 := by omega
    clear h ha hb
    go_enter Try.func49, Try.ntmps49
    go_wp2_with fail
    go_ret2
    exact ⟨by first | done | rfl, Below.refl _ _⟩
  · rw [show addV a b = 0 from if_neg h, show addOk a b = false from decide_eq_false h]
    have t1 : decide (18446744073709551615 - (b : Int) < (a : Int)) = true := decide_eq_true (by omega)
    clear h ha hb
    go_enter Try.func49, Try.ntmps49
    go_wp2_with fail
    go_ret2
    exact ⟨by first | done | rfl, Below.refl _ _⟩
end Go.Proofs.Ytccihllcohnnnaa
namespace Go.Proofs.Ytccihllcohnnnaa
open Go.RowKit
set_option maxRecDepth 100000

set_option maxRecDepth 100000 in
set_option maxHeartbeats 4000000 in
theorem refIs (s : SlV) (l : List Nd) (i : Int) (w : World) (h : SlE Ene w (sv s) l) (hn : l.length ≤ 1000) :
    Calls Try.prog 59 #[.agg (tr ⟨s⟩), .int .i64 i] w fun e w' => e = .returned (.bool (isT l i)) ∧ Below w.heap.size w w' := by
  have HN : Hid (l.length ≤ 1000) := Lib.hid hn
  have HM := Lib.hid (fun W (g : Below w.heap.size w W) => refMayT s l W (slE_keep g h) hn)
  have hl := sv_lenN h
  obtain ⟨p, n, cp⟩ := s
  dsimp only at hl
  obtain ⟨r, hr⟩ : ∃ r, r = decide (MayT l) := ⟨_, rfl⟩
  rw [← hr] at HM
  obtain ⟨x, hx⟩ : ∃ x, x = isT l i := ⟨_, rfl⟩
  rw [← hx]
  have HX : Hid (x = (r && (decide (0 ≤ i) && decide (i < (n : Int))))) := by rw [hx, hr]; unfold isT; rw [hl]; rfl
  obtain ⟨W0, hW0⟩ : ∃ W0, W0 = w.alloc (.cells (tr ⟨⟨p, n, cp⟩⟩) 24) := ⟨_, rfl⟩
  have HB : Hid (Below w.heap.size w W0) := by rw [hW0]; exact below1
  have M0 : Hid (W0.heap[w.heap.size]? = some (.cells (tr ⟨⟨p, n, cp⟩⟩) 24 (0, 0))) := by rw [hW0]; exact heap_alloc_last w _
  have HW := Lib.hid hW0
  clear hW0 h hl hn hr hx
  go_enter Try.func59, Try.ntmps59
  go_wp2_with fail
  rw [← HW.out]
  refine (HM.out W0 HB.out).mono ?_
  rintro e w1 ⟨rfl, g1⟩
  have G1 := Lib.hid (belowT HB.out g1)
  obtain ⟨z0, z1, zl⟩ := tr_cells (blk_keep g1 M0.out)
  dsimp only at z0
  rw [sv_mk] at z0
  cases r
  · go_wp2_with fail
    go_ret
    exact ⟨by rw [HX.out]; rfl, G1.out⟩
  · by_cases h0 : 0 ≤ i
    · have t0 : decide (0 ≤ i) = true := decide_eq_true h0
      by_cases h1 : i < (n : Int)
      · have t1 : decide (i < (n : Int)) = true := decide_eq_true h1
        have hX : Hid (x = true) := by show x = true; rw [HX.out, t0, t1]; rfl
        clear h0 h1
        go_wp2_with fail
        go_ret
        exact ⟨by rw [hX.out]; first | done | rfl, G1.out⟩
      · have t1 : decide (i < (n : Int)) = false := decide_eq_false h1
        have hX : Hid (x = false) := by show x = false; rw [HX.out, t0, t1]; rfl
        clear h0 h1
        go_wp2_with fail
        go_ret
        exact ⟨by rw [hX.out]; first | done | rfl, G1.out⟩
    · have t0 : decide (0 ≤ i) = false := decide_eq_false h0
      have hX : Hid (x = false) := by show x = false; rw [HX.out, t0]; rfl
      clear h0
      go_wp2_with fail
      go_ret
      exact ⟨by rw [hX.out]; first | done | rfl, G1.out⟩
end Go.Proofs.Ytccihllcohnnnaa
