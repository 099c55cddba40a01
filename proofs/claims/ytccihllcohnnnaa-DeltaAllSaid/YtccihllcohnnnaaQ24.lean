/-
  What votes weigh: Of, the document's own, walked.
  Votes that nobody has, as make lays them.
  The document's weights: are two lists the same?
  A list of numbers of 64 bits is answered, and whether; in whatever memory.
  What is asked of weight.Sub and weight.Pass.
-/
import Derived.Test.YtccihllcohnnnaaQ23
import Derived.Test.YtccihllcohnnnaaQ16
import Derived.Test.YtccihllcohnnnaaQ15
import Derived.Deep.Cut
import Derived.Test.YtccihllcohnnnaaQ20
namespace Go.Proofs.Ytccihllcohnnnaa
open Go.RowKit
set_option maxRecDepth 100000

theorem results_tmp3 {fn : Func} {t u v : Tmp} (h : fn.results = #[.tmp t, .tmp u, .tmp v]) (tmps : Array Value) (P : Program) (w : World) :
    (results fn tmps).run P w = .ok (.tuple #[tmps.getD t undef, tmps.getD u undef, tmps.getD v undef]) w := by
  simp [results, h]
/-- Two lists are answered, and whether. -/
def TwoOk (a b : List UInt64) (ok : Bool) (w : World) (e : Ending) (w' : World) : Prop := ∃ u v, e = .returned (.tuple #[u, v, .bool ok]) ∧ SlE Enum w' u a ∧ SlE Enum w' v b ∧ Below w.heap.size w w'

set_option maxRecDepth 100000 in
set_option maxHeartbeats 8000000 in
theorem ref14Of_n (p q q' r : Option Addr) (n cp m cq m' cq' k cr : Nat) (l : List Nd) (was is : Vt) (bal : List UInt64) (w : World) (h : SlE Ene w (.slice p n cp) l) (h1 : SlE Elt w (.slice q m cq) was.l) (h1' : SlE Elt w (.slice q' m' cq') is.l) (h2 : SlE Enum w (.slice r k cr) bal) (hl : l.length = n) (hv : was.l.length = m) (hv' : is.l.length = m') (hb : bal.length = k) (hn : n ≤ 1000) (hm : m ≤ 1000) (hm' : m' ≤ 1000) (hk : k ≤ 1000) :
    Calls Try.prog 15 #[.agg (tr ⟨⟨p, n, cp⟩⟩), .agg (vo ⟨⟨q, m, cq⟩, was.out⟩), .agg (vo ⟨⟨q', m', cq'⟩, is.out⟩), .slice r k cr] w (TwoOk (plusL l was is bal) (minusL l was is bal) (ofB l was is bal) w) := by
  have HF1 := Lib.hid (fun W (g : Below w.heap.size w W) => ref14Fit_n p q r n cp m cq k cr l was bal W (slE_keep g h) (slE_keep g h1) (slE_keep g h2) hl hv hb hn hm hk)
  have HF2 := Lib.hid (fun W (g : Below w.heap.size w W) => ref14Fit_n p q' r n cp m' cq' k cr l is bal W (slE_keep g h) (slE_keep g h1') (slE_keep g h2) hl hv' hb hn hm' hk)
  have HS1 : Hid (fitB l was bal = true → fitB l is bal = true → ∀ W, Below w.heap.size w W → Calls Try.prog 31 #[.agg (tr ⟨⟨p, n, cp⟩⟩), .agg (vo ⟨⟨q', m', cq'⟩, is.out⟩), .agg (vo ⟨⟨q, m, cq⟩, was.out⟩), .slice r k cr] W (fun e w' => ∃ u, e = .returned u ∧ OwnE Enum w' W.heap.size u (plusL l was is bal) ∧ Below W.heap.size W w')) := fun f1 f2 W g => by
    obtain ⟨_, _, _, e1⟩ := fit_iff.1 f1
    obtain ⟨_, _, _, e2⟩ := fit_iff.1 f2
    obtain rfl : m' = k := by omega
    obtain rfl : m = m' := by omega
    rw [plusL_yes (of_iff.2 ⟨f1, f2⟩)]
    exact ref14Some_yes p q' q r n cp m cq' cq cr l is was bal W (slE_keep g h) (slE_keep g h1') (slE_keep g h1) (slE_keep g h2) hl hv' hv hb f2
  have HS2 : Hid (fitB l was bal = true → fitB l is bal = true → ∀ W, Below w.heap.size w W → Calls Try.prog 31 #[.agg (tr ⟨⟨p, n, cp⟩⟩), .agg (vo ⟨⟨q, m, cq⟩, was.out⟩), .agg (vo ⟨⟨q', m', cq'⟩, is.out⟩), .slice r k cr] W (fun e w' => ∃ u, e = .returned u ∧ OwnE Enum w' W.heap.size u (minusL l was is bal) ∧ Below W.heap.size W w')) := fun f1 f2 W g => by
    obtain ⟨_, _, _, e1⟩ := fit_iff.1 f1
    obtain ⟨_, _, _, e2⟩ := fit_iff.1 f2
    obtain rfl : m' = k := by omega
    obtain rfl : m = m' := by omega
    rw [minusL_yes (of_iff.2 ⟨f1, f2⟩)]
    exact ref14Some_yes p q q' r n cp m cq cq' cr l was is bal W (slE_keep g h) (slE_keep g h1) (slE_keep g h1') (slE_keep g h2) hl hv hv' hb f1
  have HNo : Hid (ofB l was is bal = false → plusL l was is bal = [] ∧ minusL l was is bal = []) := fun e => ⟨plusL_no e, minusL_no e⟩
  obtain ⟨f1, hf1⟩ : ∃ f, f = fitB l was bal := ⟨_, rfl⟩
  obtain ⟨f2, hf2⟩ : ∃ f, f = fitB l is bal := ⟨_, rfl⟩
  have ho : ofB l was is bal = (f1 && f2) := by unfold ofB; rw [hf1, hf2]
  rw [ho] at HNo
  rw [ho]
  rw [← hf1] at HF1 HS1 HS2
  rw [← hf2] at HF2 HS1 HS2
  generalize plusL l was is bal = P at *
  generalize minusL l was is bal = M at *
  obtain ⟨W0, hW0⟩ : ∃ W0, W0 = ((w.alloc (.cells (tr ⟨⟨p, n, cp⟩⟩) 24)).alloc (.cells (vo ⟨⟨q, m, cq⟩, was.out⟩) 28)).alloc (.cells (vo ⟨⟨q', m', cq'⟩, is.out⟩) 28) := ⟨_, rfl⟩
  obtain ⟨hB, k0, k1, k2, hz0⟩ := heap3 w _ _ _ _ _ _ W0 hW0
  have HB := Lib.hid hB
  have HW := Lib.hid hW0
  have K0 := Lib.hid k0
  have K1 := Lib.hid k1
  have K2 := Lib.hid k2
  clear hW0 h h1 h1' h2 hl hv hv' hb hB k0 k1 k2 hz0 hn hm hm' hk hf1 hf2 ho
  go_enter Try.func15, Try.ntmps15
  have z1 := (tr_cells K0.out).2.1
  have y1 := (vo_cells K1.out).2.2.1
  go_wp2_with fail
  rw [← HW.out]
  go_wp2_with fail
  refine (HF1.out W0 HB.out).mono ?_
  rintro e w1 ⟨rfl, g1⟩
  have G1 := Lib.hid (belowT HB.out g1)
  have M0 := Lib.hid (blk_keep g1 K0.out)
  have M1 := Lib.hid (blk_keep g1 K1.out)
  have M2 := Lib.hid (blk_keep g1 K2.out)
  clear g1 z1 y1
  have z1 := (tr_cells M0.out).2.1
  have y2 := (vo_cells M2.out).2.2.1
  go_wp2_with fail
  refine (HF2.out w1 G1.out).mono ?_
  rintro e w2 ⟨rfl, g2⟩
  have G2 := Lib.hid (belowT G1.out g2)
  have N0 := Lib.hid (blk_keep g2 M0.out)
  have N1 := Lib.hid (blk_keep g2 M1.out)
  have N2 := Lib.hid (blk_keep g2 M2.out)
  clear g2 z1 y2
  by_cases hb : (f1 && f2) = true
  · obtain ⟨rfl, rfl⟩ := Bool.and_eq_true_iff.1 hb
    have S1 := Lib.hid (HS1.out rfl rfl)
    have S2 := Lib.hid (HS2.out rfl rfl)
    clear hb HS1 HS2 HNo
    have L0 := fun x : Wd w2.drew => wd_ld (tr_cells N0.out).2.1 (by decide) x
    have L1 := fun x : Wd w2.drew => wd_ld (vo_cells N1.out).2.2.1 (by decide) x
    have L2 := fun x : Wd w2.drew => wd_ld (vo_cells N2.out).2.2.1 (by decide) x
    go_wp2_with fail
    refine wp_region_lex [4, 9] (by kernel_rfl) (by kernel_rfl) (by kernel_rfl) ?_
    repeat (refine wpXL_quiet rfl rfl _ cls_begin ?_; (first | go_big_quiet_step (fail) | quiet_step (fail)); refine wpQuiet_nil ?_)
    refine wpXL_call rfl rfl rfl enters_ref14Some #[.agg (tr ⟨⟨p, n, cp⟩⟩), .agg (vo ⟨⟨q', m', cq'⟩, is.out⟩), .agg (vo ⟨⟨q, m, cq⟩, was.out⟩), .slice r k cr] rfl ?_
    refine (S1.out _ (belowT G2.out (belowD (Below.refl _ _) 1))).mono ?_
    rintro e v1 ⟨u1, rfl, ho1, g⟩
    have T1 : Hid (Below w2.heap.size w2 v1) := belowT (belowD (Below.refl _ _) 1) g
    have O1 := Lib.hid (ownE_slE ho1)
    refine ⟨_, rfl, g, ?_⟩
    simp only [Act.put, List.setIfInBounds_toArray, List.set_cons_zero, List.set_cons_succ]
    clear g ho1
    repeat (refine wpXL_quiet rfl rfl _ cls_begin ?_; (first | go_big_quiet_step (fail) | quiet_step (fail)); refine wpQuiet_nil ?_)
    refine wpXL_call rfl rfl rfl enters_ref14Some #[.agg (tr ⟨⟨p, n, cp⟩⟩), .agg (vo ⟨⟨q, m, cq⟩, was.out⟩), .agg (vo ⟨⟨q', m', cq'⟩, is.out⟩), .slice r k cr] rfl ?_
    refine (S2.out _ (belowT G2.out T1.out)).mono ?_
    rintro e v2 ⟨u2, rfl, ho2, g⟩
    have T2 : Hid (Below w2.heap.size w2 v2) := belowT T1.out g
    have O2 := Lib.hid (ownE_slE ho2)
    have O3 := Lib.hid (slE_keep g O1.out)
    refine ⟨_, rfl, g, ?_⟩
    simp only [Act.put, List.setIfInBounds_toArray, List.set_cons_zero, List.set_cons_succ]
    clear g ho2
    repeat (refine wpXL_quiet rfl rfl _ cls_begin ?_; (first | go_big_quiet_step (fail) | quiet_step (fail)); refine wpQuiet_nil ?_)
    refine wpXL_nil ?_
    clear L0 L1 L2
    go_wp2_with fail
    (try simp only [Exit.inBlock, Exit.then])
    refine bodyPost_ret (results_tmp3 rfl _ _ _) rfl ?_
    exact ⟨_, _, rfl, O3.out, O2.out, belowT G2.out T2.out⟩
  · have hb' : (f1 && f2) = false := by simpa using hb
    obtain ⟨rfl, rfl⟩ := HNo.out hb'
    clear hb
    cases f1
    · go_wp2_with fail
      (try simp only [Exit.inBlock, Exit.then])
      refine bodyPost_ret (results_tmp3 rfl _ _ _) rfl ?_
      exact ⟨_, _, rfl, slE_nil _ _ _ _, slE_nil _ _ _ _, G2.out⟩
    · cases f2
      · go_wp2_with fail
        (try simp only [Exit.inBlock, Exit.then])
        refine bodyPost_ret (results_tmp3 rfl _ _ _) rfl ?_
        exact ⟨_, _, rfl, slE_nil _ _ _ _, slE_nil _ _ _ _, G2.out⟩
      · cases hb'
theorem ref14Of (s t t' : SlV) (u : Value) (l : List Nd) (was is : Vt) (bal : List UInt64) (w : World) (h : SlE Ene w (sv s) l) (h1 : SlE Elt w (sv t) was.l) (h1' : SlE Elt w (sv t') is.l) (h2 : SlE Enum w u bal) (hn : l.length ≤ 1000) (hm : was.l.length ≤ 1000) (hm' : is.l.length ≤ 1000) (hk : bal.length ≤ 1000) :
    Calls Try.prog 15 #[.agg (tr ⟨s⟩), .agg (vo ⟨t, was.out⟩), .agg (vo ⟨t', is.out⟩), u] w (TwoOk (plusL l was is bal) (minusL l was is bal) (ofB l was is bal) w) := by
  have hl := sv_lenN h
  have hv := sv_lenT h1
  have hv' := sv_lenT h1'
  obtain ⟨p, n, cp⟩ := s
  obtain ⟨q, m, cq⟩ := t
  obtain ⟨q', m', cq'⟩ := t'
  dsimp only at hl hv hv'
  have k2 := h2
  obtain ⟨r, cr, rfl, _⟩ := slE_shape h2
  exact ref14Of_n p q q' r n cp m cq m' cq' _ cr l was is bal w h h1 h1' k2 hl hv hv' rfl (by omega) (by omega) (by omega) hk
theorem enters_ref14Of : ∀ args w, (callFunc 15 args).run Try.prog w = .ok (.enter 15 args) w := entersE Try.func15 (by kernel_rfl) (by kernel_rfl)
end Go.Proofs.Ytccihllcohnnnaa
namespace Go.Proofs.Ytccihllcohnnnaa
open Go.RowKit
set_option maxRecDepth 100000

theorem made_lts : ∀ n, n ≤ 8 → (madeCells (Value.agg (lt zlt)).cells (n * 34)).toList = cellsE Elt (List.replicate n zlt) := by
  intro n hn
  have : n = 0 ∨ n = 1 ∨ n = 2 ∨ n = 3 ∨ n = 4 ∨ n = 5 ∨ n = 6 ∨ n = 7 ∨ n = 8 := by omega
  rcases this with rfl | rfl | rfl | rfl | rfl | rfl | rfl | rfl | rfl <;> (refine Eq.symm ?_; kernel_rfl)
end Go.Proofs.Ytccihllcohnnnaa
namespace Go.Proofs.Ytccihllcohnnnaa
open Go.RowKit
set_option maxRecDepth 100000

/-! ### are two lists the same? -/
set_option maxRecDepth 100000 in
set_option maxHeartbeats 1000000 in
theorem numsSame_ne (p q : Option Addr) (n m cl ck : Nat) (w : World) (hl : n ≠ m) :
    Calls Try.prog 16 #[.slice p n cl, .slice q m ck] w fun e w' => e = .returned (.bool false) ∧ Below w.heap.size w w' := by
  have e1 : ((n : Int) == (m : Int)) = false := by simp; omega
  clear hl
  go_enter Try.func16, Try.ntmps16
  go_wp2_with fail
  go_ret
  exact ⟨rfl, Below.refl _ _⟩

set_option maxRecDepth 100000 in
set_option maxHeartbeats 1000000 in
theorem numsSame_eq (p q : Option Addr) (n cl ck : Nat) (l k : List UInt64) (w : World) (h : SlE Enum w (.slice p n cl) l) (h' : SlE Enum w (.slice q n ck) k) (hl : l.length = n) (hk : k.length = n) (hn : n ≤ 1000) :
    Calls Try.prog 16 #[.slice p n cl, .slice q n ck] w fun e w' => e = .returned (.bool (decide (l = k))) ∧ Below w.heap.size w w' := by
  have HS := Lib.hid h
  have HT := Lib.hid h'
  have HL := Lib.hid hl
  have HK := Lib.hid hk
  have HN := Lib.hid hn
  obtain ⟨r, hr⟩ : ∃ r, r = decide (l = k) := ⟨_, rfl⟩
  rw [← hr]
  have HR := Lib.hid hr
  clear h h' hl hk hn hr
  go_enter Try.func16, Try.ntmps16
  go_wp2_with fail
  go_loopw [5] (fun i wr => ∃ j : Nat, j ≤ n ∧ i = .int .i64 (j : Int) ∧ (∀ x, x < j → fn l x = fn k x) ∧ Below w.heap.size w wr) (fun i _ => n - (intOf i).toNat)
  case atStart => exact ⟨0, Nat.zero_le _, rfl, fun x hx => absurd hx (Nat.not_lt_zero _), Below.refl _ _⟩
  case round =>
    obtain ⟨j, hj, rfl, hx, hb⟩ := hrel
    have HX := Lib.hid hx
    have HB := Lib.hid hb
    clear hx hb
    by_cases hlt : j < n
    · have i0 : (0 : Int) ≤ (j : Int) := by omega
      have i1 : (j : Int) < (n : Int) := by omega
      have u1 : (j : Int) + 1 < 10000 := by have := HN.out; omega
      obtain ⟨b1, o1, rfl, q1, x1⟩ := nums_ptr (slE_keep HB.out HS.out) (by have := HL.out; omega)
      obtain ⟨b2, o2, rfl, q2, x2⟩ := nums_ptr (slE_keep HB.out HT.out) (by have := HK.out; omega)
      have y1 := nums_cell x1 (i := j) (by have := HL.out; omega)
      have y2 := nums_cell x2 (i := j) (by have := HK.out; omega)
      clear x1 x2 q1 q2
      obtain ⟨yl, hyl⟩ : ∃ y, y = fn l j := ⟨_, rfl⟩
      obtain ⟨yk, hyk⟩ : ∃ y, y = fn k j := ⟨_, rfl⟩
      rw [← hyl] at y1
      rw [← hyk] at y2
      have HYl := Lib.hid hyl
      have HYk := Lib.hid hyk
      clear hyl hyk
      by_cases he : yl = yk
      · have HE : Hid (fn l j = fn k j) := by show _ = _; rw [← HYl.out, ← HYk.out]; exact he
        rw [he] at y1
        clear he
        go_wp2_with fail
        go_quiet (fail)
        go_wp2_with fail
        go_roundw
        case rel => exact ⟨j + 1, by omega, by go_num, fun x hx => by
          rcases Nat.lt_succ_iff_lt_or_eq.1 hx with h | rfl
          · exact HX.out x h
          · exact HE.out, belowD HB.out _⟩
        case measure => simp [intOf]; omega
      · have hR : Hid (r = false) := by
          show r = false
          rw [HR.out, decide_eq_false_iff_not]
          intro e
          exact he (by rw [HYl.out, HYk.out, e])
        have t1 : ((yl : Int) == (yk : Int)) = false := by rw [beq_eq_false_iff_ne]; omega
        have t1' : ((yl : Int) != (yk : Int)) = true := by rw [bne_iff_ne]; omega
        clear he
        go_wp2_with fail
        go_quiet (fail)
        go_wp2_with fail
        go_ret
        exact ⟨by rw [hR.out]; first | done | rfl, belowD HB.out _⟩
    · obtain rfl : j = n := by omega
      have hR : Hid (r = true) := by
        show r = true
        rw [HR.out, decide_eq_true_iff]
        exact fn_ext (by rw [HL.out, HK.out]) fun i hi => HX.out i (by have := HK.out; omega)
      go_wp2_with fail
      go_ret
      exact ⟨by rw [hR.out]; first | done | rfl, HB.out⟩
/-- Are two lists the same? -/
theorem ref08Same (v u : Value) (l k : List UInt64) (w : World) (h : SlE Enum w v l) (h' : SlE Enum w u k) (hn : l.length ≤ 1000) :
    Calls Try.prog 16 #[v, u] w fun e w' => e = .returned (.bool (decide (l = k))) ∧ Below w.heap.size w w' := by
  have hs := h
  have ht := h'
  obtain ⟨p, cl, rfl, _⟩ := slE_shape h
  obtain ⟨q, ck, rfl, _⟩ := slE_shape h'
  by_cases e : l.length = k.length
  · rw [← e] at ht ⊢
    exact numsSame_eq p q l.length cl ck l k w hs ht rfl e.symm hn
  · rw [decide_eq_false (fun he => e (by rw [he]))]
    exact numsSame_ne p q _ _ cl ck w e
theorem enters_ref08Same : ∀ args w, (callFunc 16 args).run Try.prog w = .ok (.enter 16 args) w := entersE Try.func16 (by kernel_rfl) (by kernel_rfl)
end Go.Proofs.Ytccihllcohnnnaa
namespace Go.Proofs.Ytccihllcohnnnaa
open Go.RowKit
set_option maxRecDepth 100000

/-- A list that reads so, and whether. -/
def NumsIs (a : List UInt64) (ok : Bool) (w : World) (e : Ending) (w' : World) : Prop := ∃ v : Value, e = .returned (.tuple #[v, .bool ok]) ∧ SlE Enum w' v a ∧ Below w.heap.size w w'
theorem NumsOk.is {a : List UInt64} {ok : Bool} {w w' : World} {e : Ending} (h : NumsOk a ok w e w') : NumsIs a ok w e w' := by
  obtain ⟨v, h1, h2, h3⟩ := h
  exact ⟨v, h1, ownE_slE h2, h3⟩
end Go.Proofs.Ytccihllcohnnnaa
namespace Go.Proofs.Ytccihllcohnnnaa
open Go.RowKit
set_option maxRecDepth 100000

def SubC : Prop := ∀ (s : SlV) (v : Value) (l : List Nd) (a : List UInt64) (w : World), SlE Ene w (sv s) l → SlE Enum w v a → Calls Try.prog 26 #[.agg (tr ⟨s⟩), v] w (NumsIs (subL l a) (subOk l a) w)
def PassC : Prop := ∀ (s : SlV) (v1 v2 v3 : Value) (l : List Nd) (a b c : List UInt64) (w : World), SlE Ene w (sv s) l → SlE Enum w v1 a → SlE Enum w v2 b → SlE Enum w v3 c → Calls Try.prog 17 #[.agg (tr ⟨s⟩), v1, v2, v3] w (NumsIs (passL l a b c) (passOk l a b c) w)
end Go.Proofs.Ytccihllcohnnnaa
