/-
  The document's best way down: Head, All, and whether two lists of pairs are the same, walked.
-/
import Derived.Test.YtjmpgphoiehdmaaR09Line
import Derived.Test.YtjmpgphoiehdmaaPd
import Derived.Test.YtjmpgphoiehdmaaLexE
namespace Go.Proofs.Ytjmpgphoiehdmaa
open Go.RowKit

theorem wayZ_cases (l : List Nd) (a : List UInt64) (b : List Bool) (i : Int) : (wayZ l a b i = [] ∧ headZ l a b i = -1) ∨ (0 < (wayZ l a b i).length ∧ (wayZ l a b i).length ≤ 12 ∧ (wayZ l a b i).getD ((wayZ l a b i).length - 1) 0 = headZ l a b i) := by
  cases hp : placeB l a b i
  · exact .inl ⟨wayZ_not hp, headZ_not hp⟩
  · obtain ⟨ht, h0, h1⟩ := place_iff.1 hp
    obtain ⟨i, rfl⟩ : ∃ i' : Nat, i = i' := ⟨i.toNat, by omega⟩
    have hm := (told_iff.1 ht).1
    have hi : i < l.length := by omega
    obtain ⟨_, _, _, c1, c2, _, c3, _⟩ := law_way (w := a) (b := b) hm hi
    rw [wayZ_nat ht hi, headZ_nat ht hi]
    have := hm.le
    refine .inr ⟨by rw [List.length_map]; exact c1, by rw [List.length_map]; omega, ?_⟩
    rw [List.length_map, List.getD_eq_getElem?_getD, List.getElem?_map]
    rw [List.getD_eq_getElem?_getD] at c3
    have h2 : (wayN l a b i).length - 1 < (wayN l a b i).length := by omega
    rw [List.getElem?_eq_getElem h2] at c3 ⊢
    simp only [Option.getD_some] at c3
    simp only [Option.map_some, Option.getD_some]
    rw [c3]

set_option maxRecDepth 100000 in
set_option maxHeartbeats 4000000 in
theorem ref09Head (s : SlV) (v u : Value) (l : List Nd) (a : List UInt64) (b : List Bool) (i : Int) (w : World) (h : SlE Ene w (sv s) l) (h1 : SlE Enum w v a) (h2 : SlE Eboo w u b) (hn : l.length ≤ 1000) :
    Calls Try.prog 18 #[.agg (tr ⟨s⟩), v, u, .int .i64 i] w fun e w' => e = .returned (.int .i64 (headZ l a b i)) ∧ Below w.heap.size w w' := by
  have HC := Lib.hid (fun W (g : Below w.heap.size w W) => ref09Line s v u l a b i W (slE_keep g h) (slE_keep g h1) (slE_keep g h2) hn)
  have HWC := Lib.hid (wayZ_cases l a b i)
  obtain ⟨W0, hW0⟩ : ∃ W0, W0 = w.alloc (.cells (tr ⟨s⟩) 24) := ⟨_, rfl⟩
  have HB : Hid (Below w.heap.size w W0) := by rw [hW0]; exact below1
  have HW := Lib.hid hW0
  generalize wayZ l a b i = K at *
  generalize headZ l a b i = H at *
  clear hW0 h h1 h2 hn
  go_enter Try.func18, Try.ntmps18
  go_wp2_with fail
  rw [← HW.out]
  refine (HC.out W0 HB.out).mono ?_
  rintro e w1 ⟨x, rfl, ho, g1⟩
  have G1 := Lib.hid (belowT HB.out g1)
  obtain ⟨pv, cv, rfl⟩ := ownE_shape ho
  have HO := Lib.hid (ownE_slE ho)
  clear ho g1
  rcases HWC.out with ⟨rfl, rfl⟩ | ⟨k0, k1, k2⟩
  · clear HWC
    go_wp2_with fail
    go_ret
    exact ⟨rfl, G1.out⟩
  · obtain ⟨n, hn⟩ : ∃ n, K.length = n + 1 := ⟨K.length - 1, by omega⟩
    rw [hn] at HO k1 k2 ⊢
    obtain ⟨b1, o1, rfl, _, x1⟩ := ints_ptr HO.out (by omega)
    have y1 := ints_at x1 (i := n) (by omega)
    rw [show n + 1 - 1 = n by omega] at k2
    rw [k2] at y1
    have t0 : (((n + 1 : Nat) : Int) == 0) = false := by rw [beq_eq_false_iff_ne]; omega
    have t1 : ((n + 1 : Nat) : Int) - 1 = (n : Int) := by omega
    have i0 : (0 : Int) ≤ (n : Int) := by omega
    have i1 : (n : Int) < ((n + 1 : Nat) : Int) := by omega
    have u1 : (n : Int) + 1 < 10000 := by omega
    clear k0 k1 k2 hn x1 HWC
    go_wp2_with fail
    go_ret
    exact ⟨rfl, G1.out⟩
theorem enters_ref09Head : ∀ args w, (callFunc 18 args).run Try.prog w = .ok (.enter 18 args) w := entersE Try.func18 (by kernel_rfl) (by kernel_rfl)

/-! ### All -/
def bothZ (l : List Nd) (a : List UInt64) (b : List Bool) (i : Nat) : Pd := ⟨kidZ l a b (i : Int), headZ l a b (i : Int)⟩
def allUp (l : List Nd) (a : List UInt64) (b : List Bool) (n : Nat) : List Pd := (List.range n).map (bothZ l a b)
def allZ (l : List Nd) (a : List UInt64) (b : List Bool) : List Pd := if toldB l a b = true then allUp l a b l.length else []
theorem allUp_len (l : List Nd) (a : List UInt64) (b : List Bool) (n : Nat) : (allUp l a b n).length = n := by simp [allUp]
theorem allUp_succ (l : List Nd) (a : List UInt64) (b : List Bool) (n : Nat) : allUp l a b (n + 1) = allUp l a b n ++ [bothZ l a b n] := by simp [allUp, List.range_succ]
theorem allZ_yes {l : List Nd} {a : List UInt64} {b : List Bool} (h : toldB l a b = true) : allZ l a b = allUp l a b l.length := by unfold allZ; rw [if_pos h]
theorem allZ_no {l : List Nd} {a : List UInt64} {b : List Bool} (h : toldB l a b = false) : allZ l a b = [] := by unfold allZ; rw [if_neg (by rw [h]; exact Bool.false_ne_true)]
theorem allZ_at {l : List Nd} {a : List UInt64} {b : List Bool} (h : toldB l a b = true) {i : Nat} (hi : i < l.length) : (allZ l a b)[i]? = some (bothZ l a b i) := by
  rw [allZ_yes h]
  unfold allUp
  rw [List.getElem?_map, List.getElem?_range hi]
  rfl
/-- Pairs are answered. -/
def PairsIs (L : List Pd) (w : World) (e : Ending) (w' : World) : Prop := ∃ v, e = .returned v ∧ OwnE Epd w' w.heap.size v L ∧ Below w.heap.size w w'

set_option maxRecDepth 100000 in
set_option maxHeartbeats 8000000 in
theorem ref09All_n (p q1 q2 : Option Addr) (n cp m1 c1 m2 c2 : Nat) (l : List Nd) (a : List UInt64) (b : List Bool) (w : World) (h : SlE Ene w (.slice p n cp) l) (h1 : SlE Enum w (.slice q1 m1 c1) a) (h2 : SlE Eboo w (.slice q2 m2 c2) b) (hl : l.length = n) (ha : a.length = m1) (hb : b.length = m2) (hn : n ≤ 1000) :
    Calls Try.prog 14 #[.agg (tr ⟨⟨p, n, cp⟩⟩), .slice q1 m1 c1, .slice q2 m2 c2] w (PairsIs (allZ l a b) w) := by
  have HT := Lib.hid (fun W (g : Below w.heap.size w W) => ref09Told_n p q1 q2 n cp m1 c1 m2 c2 l a b W (slE_keep g h) hl ha hb hn)
  have HK := Lib.hid (fun W (g : Below w.heap.size w W) (i : Int) => ref09Kid ⟨p, n, cp⟩ _ _ l a b i W (slE_keep g h) (slE_keep g h1) (slE_keep g h2) (by omega))
  have HH := Lib.hid (fun W (g : Below w.heap.size w W) (i : Int) => ref09Head ⟨p, n, cp⟩ _ _ l a b i W (slE_keep g h) (slE_keep g h1) (slE_keep g h2) (by omega))
  obtain ⟨r, hr⟩ : ∃ r, r = toldB l a b := ⟨_, rfl⟩
  rw [← hr] at HT
  have HR := Lib.hid hr
  obtain ⟨W0, hW0⟩ : ∃ W0, W0 = w.alloc (.cells (tr ⟨⟨p, n, cp⟩⟩) 24) := ⟨_, rfl⟩
  have HB : Hid (Below w.heap.size w W0) := by rw [hW0]; exact below1
  have M0 : Hid (W0.heap[w.heap.size]? = some (.cells (tr ⟨⟨p, n, cp⟩⟩) 24 (0, 0))) := by rw [hW0]; exact heap_alloc_last w _
  have HW := Lib.hid hW0
  have HL := Lib.hid hl
  have HN : Hid (n ≤ 1000) := hn
  clear hW0 h h1 h2 hl ha hb hn hr
  go_enter Try.func14, Try.ntmps14
  go_wp2_with fail
  rw [← HW.out]
  refine (HT.out W0 HB.out).mono ?_
  rintro e w1 ⟨rfl, g1⟩
  have G1 := Lib.hid (belowT HB.out g1)
  have M1 := Lib.hid (blk_keep g1 M0.out)
  clear g1
  have HZ : Hid (w.heap.size < w1.heap.size) := (tr_cells M1.out).2.2
  go_wp2_with fail
  cases r
  · have hX : Hid (allZ l a b = []) := allZ_no HR.out.symm
    go_loopw [7, 9] (fun v i wr => v = .slice none 0 0 ∧ i = .int .i64 0 ∧ wr = w1) (fun _ _ _ => 1)
    case atStart => exact ⟨rfl, rfl, rfl⟩
    case round =>
      obtain ⟨rfl, rfl, rfl⟩ := hrel
      obtain ⟨z0, z1, zl⟩ := tr_cells M1.out
      dsimp only at z0
      rw [sv_mk] at z0
      obtain ⟨x, hx⟩ : ∃ r, r = decide (0 < n) := ⟨_, rfl⟩
      cases x
      · have t0 : decide (0 < n) = false := hx.symm
        have t0' : decide ((0 : Int) < (n : Int)) = false := by rw [decide_eq_false_iff_not]; have := of_decide_eq_false hx.symm; omega
        clear hx
        go_wp2_with fail
        go_ret
        exact ⟨_, rfl, by rw [hX.out]; exact ownE_nil _ _ _, G1.out⟩
      · have t0 : decide (0 < n) = true := hx.symm
        have t0' : decide ((0 : Int) < (n : Int)) = true := by rw [decide_eq_true_iff]; have := of_decide_eq_true hx.symm; omega
        clear hx
        go_wp2_with fail
        go_ret
        exact ⟨_, rfl, by rw [hX.out]; exact ownE_nil _ _ _, G1.out⟩
  · have HX : Hid (allZ l a b = allUp l a b n) := by show _ = _; rw [allZ_yes HR.out.symm, HL.out]
    go_loopw [7, 9] (fun v i wr => ∃ j : Nat, j ≤ n ∧ i = .int .i64 (j : Int) ∧ OwnE Epd wr w1.heap.size v (allUp l a b j) ∧ Below w1.heap.size w1 wr) (fun _ i _ => n - (intOf i).toNat)
    case atStart => exact ⟨0, Nat.zero_le _, rfl, ownE_nil _ _ _, Below.refl _ _⟩
    case round =>
      obtain ⟨j, hj, rfl, hown, hb⟩ := hrel
      have HO := Lib.hid hown
      have HBB := Lib.hid hb
      obtain ⟨z0, z1, zl⟩ := tr_cells (blk_keep hb M1.out)
      dsimp only at z0
      rw [sv_mk] at z0
      obtain ⟨pv, cv, rfl⟩ := ownE_len hown (allUp_len l a b j)
      clear hown hb
      by_cases hlt : j < n
      · have t0 : decide (j < n) = true := decide_eq_true hlt
        have t0' : decide ((j : Int) < (n : Int)) = true := by rw [decide_eq_true_iff]; omega
        have u1 : (j : Int) + 1 < 10000 := by have := HN.out; omega
        have L0 := fun q : WdB w1.heap.size wr.drew => ldA_wdB' (show ldA wr.drew (.pointer (some ⟨w.heap.size, 0, none⟩)) 1 = some (tr ⟨⟨p, n, cp⟩⟩) by rw [ldA_drew]; exact z1) HZ.out q
        have HT2 : Hid (allUp l a b (j + 1) = allUp l a b j ++ [⟨kidZ l a b (j : Int), headZ l a b (j : Int)⟩]) := allUp_succ l a b j
        have HLn := Lib.hid (allUp_len l a b j)
        have HJT := Lib.hid hlt
        clear hlt
        go_wp2_with fail
        clear z0 z1 zl t0 t0'
        refine wp_region_lexB w1.heap.size [5, 10, 11, 12, 13] (by kernel_rfl) (by kernel_rfl) (by kernel_rfl) ?_
        repeat (refine wpXL_quietB rfl rfl ?_; (first | go_big_quiet_step (fail) | quiet_step (fail)); refine wpQuiet_nil ?_)
        refine wpXL_call rfl rfl rfl enters_ref09Kid #[.agg (tr ⟨⟨p, n, cp⟩⟩), .slice q1 m1 c1, .slice q2 m2 c2, .int .i64 (j : Int)] rfl ?_
        refine (HK.out _ (belowT (belowT G1.out HBB.out) (belowD (Below.refl _ _) 1)) (j : Int)).mono ?_
        rintro e v1 ⟨rfl, g⟩
        have T1 : Hid (Below wr.heap.size wr v1) := belowT (belowD (Below.refl _ _) 1) g
        have B1 : Hid (w1.heap.size ≤ wr.drew.heap.size) := HBB.out.size
        refine ⟨_, rfl, g.mono B1.out, ?_⟩
        simp only [Act.put, List.setIfInBounds_toArray, List.set_cons_zero, List.set_cons_succ]
        clear g
        repeat (refine wpXL_quietB rfl rfl ?_; (first | go_big_quiet_step (fail) | quiet_step (fail)); refine wpQuiet_nil ?_)
        refine wpXL_call rfl rfl rfl enters_ref09Head #[.agg (tr ⟨⟨p, n, cp⟩⟩), .slice q1 m1 c1, .slice q2 m2 c2, .int .i64 (j : Int)] rfl ?_
        refine (HH.out _ (belowT (belowT G1.out HBB.out) T1.out) (j : Int)).mono ?_
        rintro e v2 ⟨rfl, g⟩
        have T2 : Hid (Below wr.heap.size wr v2) := belowT T1.out g
        have B2 : Hid (w1.heap.size ≤ v1.heap.size) := Nat.le_trans HBB.out.size T1.out.size
        refine ⟨_, rfl, g.mono B2.out, ?_⟩
        simp only [Act.put, List.setIfInBounds_toArray, List.set_cons_zero, List.set_cons_succ]
        clear g
        repeat (refine wpXL_quietB rfl rfl ?_; (first | go_big_quiet_step (fail) | quiet_step (fail)); refine wpQuiet_nil ?_)
        have BZ : Hid (w1.heap.size ≤ v2.heap.size) := Nat.le_trans HBB.out.size T2.out.size
        have O4 : Hid (OwnE Epd v2 w1.heap.size (.slice pv j cv) (allUp l a b j)) := ownE_keep T2.out HO.out
        generalize kidZ l a b (j : Int) = x1 at *
        generalize headZ l a b (j : Int) = x2 at *
        refine wpXL_eff rfl rfl (.agg (pd ⟨x1, x2⟩)) v2 (by go_simp) (Below.refl _ _) ?_
        simp only [Act.put, List.setIfInBounds_toArray, List.set_cons_zero, List.set_cons_succ]
        repeat (refine wpXL_quietB rfl rfl ?_; (first | go_big_quiet_step (fail) | quiet_step (fail)); refine wpQuiet_nil ?_)
        refine wpXL_eff rfl rfl (.slice (some ⟨v2.heap.size, 0, none⟩) 1 1) (v2.alloc (.cells (pd ⟨x1, x2⟩) 45)) (by go_simp) ((Below.refl _ _).alloc BZ.out _) ?_
        simp only [Act.put, List.setIfInBounds_toArray, List.set_cons_zero, List.set_cons_succ]
        repeat (refine wpXL_quietB rfl rfl ?_; (first | go_big_quiet_step (fail) | quiet_step (fail)); refine wpQuiet_nil ?_)
        have O5 : Hid (OwnE Epd (v2.alloc (.cells (pd ⟨x1, x2⟩) 45)) w1.heap.size (.slice pv j cv) (allUp l a b j)) := ownE_alloc O4.out _
        have B5 : Hid (w1.heap.size ≤ (v2.alloc (.cells (pd ⟨x1, x2⟩) 45)).heap.size) := by show _ ≤ _; have := BZ.out; simp; omega
        refine wpXL_appendE Kpd rfl rfl (.tmp 24) (.tmp 36) rfl w1.heap.size _ (allUp l a b j) rfl O5.out _ [(⟨x1, x2⟩ : Pd)] rfl (slE_lit _ [(⟨x1, x2⟩ : Pd)] 1 _ _ _ rfl (by simp) (by simp [cellsE, Epd, pd_list])) (by have := HLn.out; have := HN.out; have := HJT.out; simp; omega) B5.out (fun v' w' g => g.own O5.out B5.out) ?_
        intro v5 w5 ho5 hg5
        have G5 : Hid (Below w1.heap.size w1 w5) := (HBB.out.trans ((T2.out.mono HBB.out.size).trans (below1.mono BZ.out))).trans (hg5.own O5.out B5.out)
        have HO5 : Hid (OwnE Epd w5 w1.heap.size v5 (allUp l a b (j + 1))) := by show OwnE _ _ _ _ _; rw [HT2.out]; exact ho5
        simp only [Act.put, List.setIfInBounds_toArray, List.set_cons_zero, List.set_cons_succ]
        clear ho5 hg5
        repeat (refine wpXL_quietB rfl rfl ?_; (first | go_big_quiet_step (fail) | quiet_step (fail)); refine wpQuiet_nil ?_)
        refine wpXL_nil ?_
        go_wp2_with fail
        go_roundw
        case rel => exact ⟨j + 1, HJT.out, by go_num, HO5.out, G5.out⟩
        case measure => simp [intOf]; have := HJT.out; omega
      · obtain rfl : j = n := by omega
        have t0 : decide (j < j) = false := decide_eq_false (Nat.lt_irrefl _)
        have t0' : decide ((j : Int) < (j : Int)) = false := decide_eq_false (Int.lt_irrefl _)
        clear hlt
        go_wp2_with fail
        go_ret
        exact ⟨_, rfl, by rw [HX.out]; exact ownE_base HO.out G1.out.size, belowT G1.out HBB.out⟩
theorem ref09All (s : SlV) (v u : Value) (l : List Nd) (a : List UInt64) (b : List Bool) (w : World) (h : SlE Ene w (sv s) l) (h1 : SlE Enum w v a) (h2 : SlE Eboo w u b) (hn : l.length ≤ 1000) :
    Calls Try.prog 14 #[.agg (tr ⟨s⟩), v, u] w (PairsIs (allZ l a b) w) := by
  have hl := sv_lenN h
  obtain ⟨p, n, cp⟩ := s
  dsimp only at hl
  have k1 := h1
  have k2 := h2
  obtain ⟨q1, c1, rfl, _⟩ := slE_shape h1
  obtain ⟨q2, c2, rfl, _⟩ := slE_shape h2
  exact ref09All_n p q1 q2 n cp _ c1 _ c2 l a b w h k1 k2 hl rfl rfl (by omega)
theorem enters_ref09All : ∀ args w, (callFunc 14 args).run Try.prog w = .ok (.enter 14 args) w := entersE Try.func14 (by kernel_rfl) (by kernel_rfl)
end Go.Proofs.Ytjmpgphoiehdmaa
