/-
  Package final: Next, walked.
  A list of checkpoints: slices.Clone, walked.
  Package final: More, walked.
-/
import Derived.Test.YtlhnjaeocoafnaaQ33
import Derived.Test.YtlhnjaeocoafnaaQ42
import Derived.Test.YtlhnjaeocoafnaaQ43
import Derived.Test.YtlhnjaeocoafnaaQ35
import Derived.Test.YtlhnjaeocoafnaaQ14
import Derived.Test.YtlhnjaeocoafnaaQ26
import Derived.Laws.Cover3
import Derived.WalkMore
namespace Go.Proofs.Ytlhnjaeocoafnaa
open Go.RowKit
set_option maxRecDepth 100000

section
variable {P : Program} {ops : Array Oper} {E : List Nat} {W : World} {Q : Exit → Act → World → Prop} {L : World → World → Prop}
/-- A store in a drawing region's row. -/
theorem wpXL_storeN {k : Nat} {o : Oper} {rest : List Oper} {a : Act} {w : World} {σ : List (Nat × World)} (hE : E.contains k = true) (hw : Region.wanted o (yielded ops a.tmps) = true) (w' : World)
    (hrun : (execOp a.eval o).run P w = .ok .skip w') (hl : L w w') (h : wpXL L P ops E W Q (k + 1) rest (a.put o.dst undef) w' ((k, w') :: σ)) : wpXL L P ops E W Q k (o :: rest) a w σ := by
  unfold wpXL
  rw [if_pos hw, if_pos hE]
  unfold effAt
  rw [hrun]
  exact ⟨hl, h⟩
end
set_option maxRecDepth 100000 in
set_option maxHeartbeats 8000000 in
theorem progNext (s : SlV) (u vb vj : Value) (l : List Nd) (ls : List Lk) (bal : List UInt64) (js : List Ck) (fin : Ck) (w : World) (h : SlE Ene w (sv s) l) (h1 : SlE Elk w u ls) (h2 : SlE Enum w vb bal) (h3 : SlE Ecc w vj js) (hm : ls.length ≤ 1000) (hn : js.length ≤ 1000) :
    Calls Try.prog 17 #[.agg (tr ⟨s⟩), u, vb, vj, .agg (cc fin)] w fun e w' => e = .returned (.agg (cc (nextC l ls bal js fin))) ∧ Below w.heap.size w w' := by
  have HF := Lib.hid (fun W (g : Below w.heap.size w W) => progFinals s u vb vj l ls bal js W (slE_keep g h) (slE_keep g h1) (slE_keep g h2) (slE_keep g h3) hm hn)
  have HBe := Lib.hid (fun v cs W (g : Below w.heap.size w W) (k : SlE Ecc W v cs) (hc : cs.length ≤ 1000) => progBest s v l cs fin W (slE_keep g h) k hc)
  obtain ⟨r, hr⟩ : ∃ r, r = nextC l ls bal js fin := ⟨_, rfl⟩
  have HR : Hid (bestJ l ((finalsL l ls bal js).filter fun c => !noLater fin c) fin = r) := by show _ = _; rw [hr]; exact next_best
  have HFl : Hid ((finalsL l ls bal js).length ≤ 1000) := by show _ ≤ _; rw [finals_srcs]; exact Nat.le_trans (List.length_filter_le _ _) hn
  rw [← hr]
  obtain ⟨fs, hfs⟩ : ∃ fs, fs = finalsL l ls bal js := ⟨_, rfl⟩
  rw [← hfs] at HF HR HFl
  obtain ⟨W3, hW3⟩ : ∃ W3, W3 = ((w.alloc (.cells (tr ⟨s⟩) 24)).alloc (.cells (cc fin) 32)).alloc (.cells (cc zcc) 32) := ⟨_, rfl⟩
  obtain ⟨hB, k0, k1, k2, hz0⟩ := heap3 w _ _ _ _ _ _ W3 hW3
  have HB := Lib.hid hB
  have HW := Lib.hid hW3
  have K1 := Lib.hid k1
  have K2 := Lib.hid k2
  have HZ := Lib.hid hz0
  have z0 := (tr_cells k0).2.1
  have z1 := (ck_v k1).a
  clear hW3 hB k0 k1 k2 hz0 hr hfs h h1 h2 h3 hm hn
  go_enter Try.func17, Try.ntmps17
  go_upto_region 1 with fail
  rw [← HW.out]
  go_upto_region 2 with fail
  have L0 := fun q : WdB (w.heap.size + 2) W3.drew => ldA_wdB' (show ldA W3.drew _ _ = _ from z0) (by omega) q
  have L1 := fun q : WdB (w.heap.size + 2) W3.drew => ldA_wdB' (show ldA W3.drew _ _ = _ from z1) (by omega) q
  have G0 : Hid (Below w.heap.size w W3.drew) := belowT HB.out (belowD (Below.refl _ _) 1)
  have HZd : Hid (W3.drew.heap.size = W3.heap.size) := rfl
  have K1d : Hid (W3.drew.heap[w.heap.size + 1]? = some (.cells (cc fin) 32 (0, 0))) := K1.out
  have K2d : Hid (W3.drew.heap[w.heap.size + 2]? = some (.cells (cc zcc) 32 (0, 0))) := K2.out
  clear z0 z1
  refine wp_region_lexB (w.heap.size + 2) [5, 7, 9, 10] (by kernel_rfl) (by kernel_rfl) (by kernel_rfl) ?_
  repeat (refine wpXL_quietB rfl rfl ?_; (first | go_big_quiet_step (fail) | quiet_step (fail)); refine wpQuiet_nil ?_)
  refine wpXL_call rfl rfl rfl enters_progFinals #[.agg (tr ⟨s⟩), u, vb, vj] rfl ?_
  refine (HF.out _ G0.out).mono ?_
  rintro e w4 ⟨v4, rfl, ho, g⟩
  have HS3 : Hid (w.heap.size + 2 < W3.drew.heap.size) := (Array.getElem?_eq_some_iff.1 K2d.out).1
  refine ⟨_, rfl, g.mono (Nat.le_of_lt HS3.out), ?_⟩
  simp only [Act.put, List.setIfInBounds_toArray, List.set_cons_zero, List.set_cons_succ]
  have HO := Lib.hid ho
  have G4 := Lib.hid g
  clear ho g HF
  repeat (refine wpXL_quietB rfl rfl ?_; (first | go_big_quiet_step (fail) | quiet_step (fail)); refine wpQuiet_nil ?_)
  refine wpXL_call rfl rfl rfl enters_delFunc #[v4, .func (.func 42) #[] #[.pointer (some ⟨w.heap.size + 1, 0, none⟩)]] rfl ?_
  refine (delFunc (w.heap.size + 1) W3.drew.heap.size v4 fin fs w4 HO.out HFl.out G4.out.size (by have := HS3.out; omega) (blk_keep G4.out K1d.out)).mono ?_
  rintro e w5 ⟨v5, rfl, hs, g⟩
  refine ⟨_, rfl, g.mono (Nat.le_of_lt HS3.out), ?_⟩
  simp only [Act.put, List.setIfInBounds_toArray, List.set_cons_zero, List.set_cons_succ]
  have S := Lib.hid hs
  have G5 : Hid (Below W3.drew.heap.size W3.drew w5) := G4.out.trans g
  clear hs g HO G4
  repeat (refine wpXL_quietB rfl rfl ?_; (first | go_big_quiet_step (fail) | quiet_step (fail)); refine wpQuiet_nil ?_)
  refine wpXL_call rfl rfl rfl enters_progBest #[.agg (tr ⟨s⟩), v5, .agg (cc fin)] rfl ?_
  refine (HBe.out v5 _ w5 (belowT G0.out G5.out) S.out (Nat.le_trans (List.length_filter_le _ _) HFl.out)).mono ?_
  rintro e w6 ⟨rfl, g⟩
  rw [HR.out]
  have G6 : Hid (Below W3.drew.heap.size W3.drew w6) := belowT G5.out g
  refine ⟨_, rfl, g.mono (by have := G5.out.size; have := HS3.out; omega), ?_⟩
  simp only [Act.put, List.setIfInBounds_toArray, List.set_cons_zero, List.set_cons_succ]
  have K6 : Hid (w6.heap[w.heap.size + 2]? = some (.cells (cc zcc) 32 (0, 0))) := blk_keep G6.out K2d.out
  have z2 := wrA_block K6.out (cc_size _)
  clear g
  refine wpXL_storeN rfl rfl (stA w6 (.pointer (some ⟨w.heap.size + 2, 0, none⟩)) (.agg (cc r))) (by go_simp) (below_stA (Below.refl _ _) (Nat.le_refl _)) ?_
  simp only [Act.put]
  refine wpXL_nil ?_
  clear L0 L1 z2
  have G7 : Hid (Below w.heap.size w w6) := belowT G0.out G6.out
  go_wp2_with fail
  exact bodyPost_ret (results_agg1 Try.isAgg32 Try.sizeOf32 _ 10 rfl _ _ _ _ rfl (ldA_block (heap_putC K6.out) (cc_size _))) rfl ⟨rfl, below_stA G7.out (by omega)⟩
end Go.Proofs.Ytlhnjaeocoafnaa
namespace Go.Proofs.Ytlhnjaeocoafnaa
open Go.RowKit
set_option maxRecDepth 100000

theorem eq_nilCk (p : Option Addr) (n cap : Nat) (w : World) : (binOp .eql 27 (.slice p n cap) (.slice none 0 0)).run Try.prog w = .ok (.bool p.isNone) w := by
  have h := run_equalIn_slice_nil (P := Try.prog) w 9999 27 32 p n cap Try.underlying27
  simp [binOp, Op.equal, Op.maxDepth, h]
theorem KccBig : KnownB Try.prog Ecc 27 40 := ⟨Try.underlying27, .agg (cc zcc), info_cc, by show ((cc zcc)).size = _; exact cc_size _⟩
def SlIsC (l : List Ck) (w : World) (e : Ending) (w' : World) : Prop := ∃ v, e = .returned v ∧ OwnE Ecc w' w.heap.size v l ∧ Below w.heap.size w w'

set_option maxRecDepth 100000 in
set_option maxHeartbeats 1000000 in
theorem cloneCk_n (p : Option Addr) (n cap : Nat) (l : List Ck) (w : World) (h : SlE Ecc w (.slice p n cap) l) (hl : l.length = n) (hn : n * 40 ≤ 140737440355328) :
    Calls Try.prog 33 #[.slice p n cap] w (SlIsC l w) := by
  have HS := Lib.hid h
  have HL := Lib.hid hl
  have HN := Lib.hid hn
  cases p with
  | none =>
    have hn0 : l = [] := by
      obtain ⟨p, cap', e, _, h⟩ := h
      injection e with e
      subst e
      exact h.resolve_right (fun ⟨_, _, e, _⟩ => by cases e)
    have e : n = 0 := by rw [← hl, hn0]; rfl
    subst hn0 e
    clear HS h hl hn
    have he : ∀ w, (binOp .eql 27 (.slice none 0 cap) (.slice none 0 0)).run Try.prog w = .ok (.bool true) w := fun w => eq_nilCk none 0 cap w
    go_enter Try.func33, Try.ntmps33
    go_wp2_with fail
    go_ret
    exact ⟨_, rfl, ownE_nil _ _ _, Below.refl _ _⟩
  | some a =>
    have HO : Hid (OwnE Ecc (w.alloc (.cells #[] 32)) w.heap.size (.slice (some ⟨w.heap.size, 0, none⟩) 0 0) []) := ownE_lit (E := Ecc) w [] 0 rfl (by simp [maxLen]) #[] rfl _ rfl
    have HB : Hid (Below w.heap.size w (w.alloc (.cells #[] 32))) := below1
    clear h hl hn
    have he : ∀ w, (binOp .eql 27 (.slice (some a) n cap) (.slice none 0 0)).run Try.prog w = .ok (.bool false) w := fun w => eq_nilCk (some a) n cap w
    go_enter Try.func33, Try.ntmps33
    go_wp2_with (at_builtin; refine wpList_append_B KccBig _ rfl (.tmp 5) (.tmp 6) rfl w.heap.size _ [] rfl HO.out _ l rfl (slE_keep HB.out HS.out) (by have := HL.out; have := HN.out; simp [maxLen]; omega) (by have := HL.out; have := HN.out; simp; omega) (by simp) ?_; intro v2 w2 ho2 hg2)
    go_ret
    exact ⟨_, rfl, by simpa using ho2, HB.out.trans (hg2.own HO.out (by simp))⟩
theorem cloneCk (v : Value) (l : List Ck) (w : World) (h : SlE Ecc w v l) (hn : l.length * 40 ≤ 140737440355328) :
    Calls Try.prog 33 #[v] w (SlIsC l w) := by
  have k := h
  obtain ⟨p, cl, rfl, _⟩ := slE_shape h
  exact cloneCk_n p _ cl l w k rfl hn
theorem enters_cloneCk : ∀ args w, (callFunc 33 args).run Try.prog w = .ok (.enter 33 args) w := entersE Try.func33 (by kernel_rfl) (by kernel_rfl)
end Go.Proofs.Ytlhnjaeocoafnaa
namespace Go.Proofs.Ytlhnjaeocoafnaa
open Go.RowKit Go.Shelf
set_option maxRecDepth 100000

attribute [local go_sem] Oper.semAt_some
@[local go_sem ↓] theorem semAt_run16m {P : Program} (l : Option Nat) (ρ : Operand → Value) (o : Oper) (w : World) (h : ∀ c, o.op ≠ .defer c) : (Oper.semAt l ρ o).run P w = (execOp ρ o).run P w := by rw [Oper.semAt_eq l ρ o h]

/-- The list in its variable, its own row; the set in its own; what lay before lies as it lay. -/
structure Mow (s1 bo bt bm N : Nat) (w : World) (v : Value) (k S : List Ck) (W : World) : Prop where
  box : W.heap[bo]? = some (.cells #[v] 27 (0, 0))
  mbx : W.heap[bt]? = some (.cells #[.map (some bm)] 60 (0, 0))
  own : OwnE Ecc W s1 v k
  off : ∀ q, v.ownBlock = some q → q ≠ bo ∧ q ≠ bt
  set : OwnsC W bm N S
  old : Below s1 w W
section
variable {s1 bo bt bm N : Nat} {w W W' : World} {v : Value} {k S : List Ck}
theorem Mow.keep (h : Mow s1 bo bt bm N w v k S W) (g : Below W.heap.size W W') (hs : s1 ≤ W.heap.size) : Mow s1 bo bt bm N w v k S W' :=
  ⟨blk_keep g h.box, blk_keep g h.mbx, ownE_keep g h.own, h.off, h.set.keep g, h.old.trans (g.mono hs)⟩
theorem Mow.tn {bs : Nat → Prop} (h : Mow s1 bo bt bm N w v k S W) (t : Tn bs W W') (hs : s1 ≤ W.heap.size) (h1 : ∀ q, bs q → s1 ≤ q ∧ q ≠ bo ∧ q ≠ bt ∧ q ≠ bm ∧ v.ownBlock ≠ some q) : Mow s1 bo bt bm N w v k S W' :=
  ⟨t.heap h.box (fun e => (h1 _ e).2.1 rfl), t.heap h.mbx (fun e => (h1 _ e).2.2.1 rfl), t.own h.own (fun q hq e => (h1 q e).2.2.2.2 hq), h.off, h.set.blk (t.block bm h.set.lt (fun e => (h1 _ e).2.2.2.1 rfl)), t.below h.old (fun q e => (h1 q e).1) hs⟩
theorem own_ne_map (h : OwnE Ecc W s1 v k) (ho : OwnsC W bm N S) : v.ownBlock ≠ some bm := fun e => by
  obtain ⟨n, k', _, _, es, clock, hb, _⟩ := ho
  have := own_cells h e hb
  cases this
/-- One more behind the list: its row, then its variable. -/
theorem Mow.app (h : Mow s1 bo bt bm N w v k S W) (o1 : s1 ≤ bo) (o2 : bo < bm) (o3 : bm < bt) {c : Ck} {v' : Value} (ho : OwnE Ecc W' s1 v' (k ++ [c])) (hg : Gr W v W' v') : Mow s1 bo bt bm N w v' (k ++ [c]) S (W'.setCell ⟨bo, 0, none⟩ v') := by
  have hbt := (Array.getElem?_eq_some_iff.1 h.mbx).1
  have e1 : ∀ q, v.ownBlock = some q → q ≠ bm := fun q hq e => own_ne_map h.own h.set (by rw [hq, e])
  have hoff : ∀ q, v'.ownBlock = some q → q ≠ bo ∧ q ≠ bt := fun q hq => by
    rcases hg.2 with e | e
    · exact h.off q (e.symm.trans hq)
    · have := e q hq; omega
  have hB : W'.heap[bo]? = some (.cells #[v] 27 (0, 0)) := hg.heap h.box (fun e => (h.off _ e).1 rfl)
  refine ⟨box_set hB v', ?_, ownE_block ho fun b _ hb => Below.heap_setCell _ _ _ _ (fun e => (hoff b hb).1 e), hoff, ?_, ?_⟩
  · exact (Below.heap_setCell _ _ _ _ (show bt ≠ bo by omega)).trans (hg.heap h.mbx (fun e => (h.off _ e).2 rfl))
  · exact (h.set.blk (hg.block h.set.lt (fun e => e1 _ e rfl))).blk (Below.heap_setCell _ _ _ _ (show bm ≠ bo by omega))
  · exact (h.old.trans (hg.own h.own (by omega))).setCell (p := ⟨bo, 0, none⟩) o1 v'
/-- One more in the set. -/
theorem Mow.put (h : Mow s1 bo bt bm N w v k S W) (o1 : s1 ≤ bo) (o2 : bo < bm) (o3 : bm < bt) {c : Ck} (ho : OwnsC W' bm (N + 1) (S ++ [c])) (hg : W.grownBy W' (some bm)) : Mow s1 bo bt bm (N + 1) w v k (S ++ [c]) W' :=
  ⟨(hg.block bo (Array.getElem?_eq_some_iff.1 h.box).1 (fun e => by cases e; omega)).trans h.box, (hg.block bt (Array.getElem?_eq_some_iff.1 h.mbx).1 (fun e => by cases e; omega)).trans h.mbx,
   ownE_block h.own fun b hb hk => hg.block b hb (fun e => by cases e; exact own_ne_map h.own h.set hk), h.off, ho, h.old.grown hg (by have := (Array.getElem?_eq_some_iff.1 h.box).1; omega) (fun q e => by cases e; omega)⟩
end
theorem own_ne_type {α : Type} {E : Lie α} {W : World} {base : Nat} {v : Value} {l : List α} (h : OwnE E W base v l) {q : Nat} {c : Array Value} {t : TypeId} (hb : W.heap[q]? = some (.cells c t (0, 0))) (ht : t ≠ E.t) : v.ownBlock ≠ some q := fun e => by
  rcases h.2 with ⟨rfl, _⟩ | ⟨g, cap, cur, rfl, _, hg, _⟩
  · cases e
  · have e : g = q := by injection e
    subst e
    rw [hg] at hb
    injection hb with hb
    injection hb with _ h2
    exact ht h2.symm
theorem mow_own {s1 bo bt bm N B : Nat} {w : World} (h0 : s1 ≤ B) (h1 : bo < B) (h2 : bt < B) (h3 : bm < B) {v : Value} {k S : List Ck} {W W' : World} {bs : Nat → Prop} (h : Mow s1 bo bt bm N w v k S W) (hs : s1 ≤ W.heap.size) (t : Tn bs W W') (hb : ∀ q, bs q → B ≤ q ∧ ∃ o, W.heap[q]? = some o ∧ o.isCells = false) : Mow s1 bo bt bm N w v k S W' :=
  h.tn t hs fun q hq => by
    obtain ⟨hB, o, ho, hc⟩ := hb q hq
    refine ⟨by omega, by omega, by omega, by omega, fun e => ?_⟩
    rw [own_cells h.own e ho] at hc
    cases hc
/-- How long the list in a variable is. -/
def lenAt (W : World) (b : Nat) : Nat := match W.cell? ⟨b, 0, none⟩ with | some (.slice _ n _) => n | _ => 0
theorem lenAt_mow {s1 bo bt bm N : Nat} {w W : World} {v : Value} {k S : List Ck} (h : Mow s1 bo bt bm N w v k S W) : lenAt W bo = k.length := by
  obtain ⟨p, c, rfl⟩ := ownE_shape h.own
  unfold lenAt
  rw [(cell_of_box h.box).1]
def MorR (l : List Nd) (ls : List Lk) (bal : List UInt64) (js : List Ck) (w : World) (e : Ending) (w' : World) : Prop := ∃ v, e = .returned v ∧ OwnE Ecc w' w.heap.size v (moreL l ls bal js) ∧ Below w.heap.size w w'

set_option maxRecDepth 100000 in
set_option maxHeartbeats 16000000 in
theorem progMore_n (s : SlV) (u vb vj : Value) (l : List Nd) (ls : List Lk) (bal : List UInt64) (js : List Ck) (w : World) (h : SlE Ene w (sv s) l) (h1 : SlE Elk w u ls) (h2 : SlE Enum w vb bal) (h3 : SlE Ecc w vj js) (hn : js.length ≤ 1000) (hm : ls.length ≤ 1000) :
    Calls Try.prog 12 #[.agg (tr ⟨s⟩), u, vb, vj] w (MorR l ls bal js w) := by
  have HC := Lib.hid (fun W (g : Below w.heap.size w W) => counting16 s u vb l ls bal W (slE_keep g h) (slE_keep g h1) (slE_keep g h2) hm)
  have HG1 := Lib.hid (fun W (g : Below w.heap.size w W) => groupOf vj js W (slE_keep g h3) hn)
  have HCl := Lib.hid (fun W (g : Below w.heap.size w W) => cloneCk vj js W (slE_keep g h3) (by omega))
  obtain ⟨r, hr⟩ : ∃ r, r = moreL l ls bal js := ⟨_, rfl⟩
  have HRr : Hid (∀ v w', OwnE Ecc w' w.heap.size v r → Below w.heap.size w w' → MorR l ls bal js w (.returned v) w') := fun v w' h1 h2 => ⟨v, rfl, by rw [← hr]; exact h1, h2⟩
  obtain ⟨L, hL⟩ : ∃ L, L = cntL l ls bal := ⟨_, rfl⟩
  have HNew : Hid (∀ (k : List Ck) (ys : List Lk) (x : Lk), ys ++ [x] <+: L → (∀ y ∈ ys, freshK k y = false) → freshK k x = true → moreL l ls bal (k ++ [x.t]) = moreL l ls bal k ∧ openN ls (k ++ [x.t]) < openN ls k) := fun k ys x => by rw [hL]; exact more_new
  have HOld : Hid (∀ k : List Ck, (∀ y ∈ L, freshK k y = false) → moreL l ls bal k = k) := fun k => by rw [hL]; exact more_old
  have HOp : Hid (openN ls js ≤ ls.length) := open_le js
  have HLl : Hid (L.length ≤ 1000) := by show _ ≤ _; rw [hL]; exact Nat.le_trans (cntL_len _ _ _) hm
  have HLe := Lib.hid hL
  have HRe := Lib.hid hr
  have HN := Lib.hid hn
  have HM := Lib.hid hm
  obtain ⟨W0, hW0⟩ : ∃ W0, W0 = w.alloc (.cells (tr ⟨s⟩) 24) := ⟨_, rfl⟩
  have HB : Hid (Below w.heap.size w W0) := by rw [hW0]; exact below1
  have T0 : Hid (W0.heap[w.heap.size]? = some (.cells (tr ⟨s⟩) 24 (0, 0))) := by rw [hW0]; exact heap_alloc_last w _
  have HW := Lib.hid hW0
  have z0 := (tr_cells T0.out).2.1
  clear hW0 h h1 h2 h3 hn hm hr hL
  refine callsIn_wide.1 (callsIn_of_wp_marks (n := 3) Try.func12 rfl trivial (wpIn_wide.2 ?_))
  simp only [Try.ntmps12, List.size_toArray, List.length_cons, List.length_nil, Nat.reduceAdd, Nat.reduceSub, Array.replicate_succ, Array.replicate_zero, List.push_toArray, List.append_toArray, List.nil_append, List.cons_append]
  go_upto_region 1 with fail
  rw [← HW.out]
  go_step3
  go_wp2_with fail
  refine (HC.out W0 HB.out).mono ?_
  rintro e w1 ⟨b, m, c, q, rfl, hb, hlm, ho, hge, g⟩
  rw [← HLe.out] at hlm ho
  have G1 := Lib.hid (belowT HB.out g)
  have HZ0 : Hid (w.heap.size ≤ w1.heap.size) := G1.out.size
  have HSt := Lib.hid (values_stops 2 w1.heap.size w1.heap.size w1.heap.size b m c q L w1 (Nat.le_refl _) (Nat.le_refl _) (by rw [← hlm]; exact HLl.out) hlm (Array.getElem?_eq_some_iff.1 hb).1 (Nat.ne_of_lt (Array.getElem?_eq_some_iff.1 hb).1) hb (ownE_slE ho) (fun b' o' e hpos => by
    have := ownE_lt ho (b := b') (by rw [e]; rfl)
    omega))
  clear g hb hlm ho hge z0 HC HB T0 HW
  go_wp2_with fail
  refine (HCl.out w1 G1.out).mono ?_
  rintro e w2 ⟨v1, rfl, ho, g⟩
  have HO := Lib.hid ho
  have G2 := Lib.hid g
  clear ho g HCl
  obtain ⟨pv, cv, hv1⟩ := ownE_shape HO.out
  have HOn : Hid (v1.oneCell' = true) := by show _ = _; rw [hv1]; rfl
  have HVo : Hid (∀ k, v1.ownBlock = some k → w1.heap.size ≤ k ∧ k < w2.heap.size) := fun k hk => ownE_lt HO.out hk
  obtain ⟨W3, hW3⟩ : ∃ W3, W3 = w2.alloc (.cells #[v1] 27) := ⟨_, rfl⟩
  have g3 : Below w2.heap.size w2 W3 := by rw [hW3]; exact below1
  have BO : Hid (W3.heap[w2.heap.size]? = some (.cells #[v1] 27 (0, 0))) := by show _ = _; rw [hW3]; exact heap_alloc_last w2 _
  have O3 : Hid (OwnE Ecc W3 w1.heap.size v1 js) := ownE_keep g3 HO.out
  have G3 : Hid (Below w1.heap.size w1 W3) := belowT G2.out g3
  have HW3 := Lib.hid hW3
  obtain ⟨bo, hbo⟩ : ∃ bo, bo = w2.heap.size := ⟨_, rfl⟩
  have HZ2 : Hid (w1.heap.size ≤ bo) := by show _ ≤ _; rw [hbo]; exact G2.out.size
  rw [hv1]
  rw [hv1] at HW3
  clear hW3 g3
  go_upto_region 3 with fail
  rw [← HW3.out, ← hbo]
  rw [← hbo] at BO HVo
  clear HW3 hbo G2 HO
  go_wp2_with fail
  refine (HG1.out W3 (G1.out.trans (G3.out.mono HZ0.out))).mono ?_
  rintro e w4 ⟨rfl, hown, g⟩
  have HZ3 : Hid (bo < W3.heap.size) := (Array.getElem?_eq_some_iff.1 BO.out).1
  have OS := Lib.hid hown
  replace BO := Lib.hid (blk_keep g BO.out)
  replace O3 := Lib.hid (ownE_keep g O3.out)
  have G4 : Hid (Below w1.heap.size w1 w4) := belowT G3.out g
  obtain ⟨bm, hbm⟩ : ∃ bm, bm = W3.heap.size := ⟨_, rfl⟩
  rw [← hbm] at OS HZ3 ⊢
  clear g hown hbm HG1 G3
  obtain ⟨W5, hW5⟩ : ∃ W5, W5 = w4.alloc (.cells #[.map (some bm)] 60) := ⟨_, rfl⟩
  have g5 : Below w4.heap.size w4 W5 := by rw [hW5]; exact below1
  have HZ4 : Hid (bm < w4.heap.size) := OS.out.lt
  have HZ5 : Hid (W5.heap.size = w4.heap.size + 1) := by show _ = _; rw [hW5]; exact World.size_alloc _ _
  have MO : Hid (Mow w1.heap.size bo w4.heap.size bm js.length w1 v1 js js W5) := ⟨blk_keep g5 BO.out, by rw [hW5]; exact heap_alloc_last w4 _, ownE_keep g5 O3.out, fun q hq => by have := HVo.out q hq; have := HZ3.out; have := HZ4.out; omega, OS.out.keep g5, belowT G4.out g5⟩
  obtain ⟨bt, hbt⟩ : ∃ bt, bt = w4.heap.size := ⟨_, rfl⟩
  rw [← hbt] at MO HZ4 HZ5
  have HW5 := Lib.hid hW5
  clear hW5 g5 BO O3 OS G4 HVo
  go_wp2_with fail
  rw [← HW5.out, ← hbt]
  clear HW5 hbt
  go_step3
  go_wp2_with fail
  rw [hv1] at MO
  clear hv1 HOn
  obtain ⟨s1, hs1⟩ : ∃ s1, s1 = w1.heap.size := ⟨_, rfl⟩
  rw [← hs1] at MO HSt HZ0 HZ2
  have HSZ : Hid (w.heap.size ≤ s1 ∧ s1 ≤ bo ∧ bo < bm ∧ bm < bt ∧ bt < W5.heap.size) := ⟨HZ0.out, HZ2.out, HZ3.out, HZ4.out, by have := HZ5.out; have := (Array.getElem?_eq_some_iff.1 MO.out.mbx).1; omega⟩
  have HS1 := Lib.hid hs1
  clear HZ0 HZ2 HZ3 HZ4 HZ5 hs1
  refine wp_loop (fun a W => ∃ (v : Value) (k : List Ck) (u21 : Value) (ds : List Nat), Mow s1 bo bt bm k.length w1 v k k W ∧ k.length + openN ls k ≤ js.length + ls.length ∧ moreL l ls bal k = r ∧ W5.heap.size ≤ W.heap.size ∧ (∀ D ∈ ds, W.heap[D]? = some (.deferred (some [])) ∧ W5.heap.size ≤ D) ∧ ds.Nodup ∧
      a = { tmps := #[.agg (tr ⟨s⟩), u, vb, vj, .pointer (some ⟨w.heap.size, 0, none⟩), undef, undef, undef, .slice none 0 0, .func (.func 84) #[] #[.pointer (some ⟨b, 0, none⟩)], .pointer (some ⟨bo, 0, none⟩), .pointer (some ⟨bt, 0, none⟩), undef, .agg (tr ⟨s⟩), u, vb, .func (.func 84) #[] #[.pointer (some ⟨b, 0, none⟩)], vj, .slice pv js.length cv, vj, .map (some bm), u21, undef, undef, undef, undef, undef, undef, undef, undef, undef, undef, undef, undef, undef, undef, undef, undef, undef, undef, undef, undef, undef, undef], defers := ds.map mkD })
    (fun _ W => js.length + ls.length - lenAt W bo) ?start ?round
  case start =>
    exact ⟨_, js, _, [], MO.out, by have := HOp.out; omega, HRe.out.symm, Nat.le_refl _, fun D hD => (by cases hD), List.nodup_nil, rfl⟩
  case round =>
    rintro a wr ⟨v, k, u21, ds, hmo, hlen, heq, hsz, hds, hnd, rfl⟩
    have M := Lib.hid hmo
    have HLn := Lib.hid hlen
    have HE := Lib.hid heq
    have HSW := Lib.hid hsz
    have HDS := Lib.hid hds
    have HND := Lib.hid hnd
    have HMu : Hid (lenAt wr bo = k.length) := lenAt_mow hmo
    have HKl : Hid (k.length ≤ 2000) := by show _ ≤ _; have := HN.out; have := HM.out; omega
    clear hmo hlen heq hsz hds hnd
    go_wp2_with fail
    refine (wpIn_wide (n := 3)).1 ?_
    refine wpIn_rangeFunc_ownH (w0 := w1) rfl (by omega) (gf := 84) (lb := #[.pointer (some ⟨b, 0, none⟩)]) rfl trivial enters_slicesValues1
      HSt.out butK_t (butK_b (Nat.le_refl _) (by have := HSZ.out; have := HSW.out; omega)) (by rw [← HS1.out]; exact M.out.old) (fun _ => rfl)
      (fun pre W => (∀ y ∈ pre, freshK k y = false) ∧ Below wr.heap.size wr W)
      (fun c pre W => (c = .exit 1 ∧ ∃ ys x, pre = ys ++ [x] ∧ (∀ y ∈ ys, freshK k y = false) ∧ freshK k x = true ∧ ∃ v', Mow s1 bo bt bm (k.length + 1) w1 v' (k ++ [x.t]) (k ++ [x.t]) W) ∧ wr.heap.size ≤ W.heap.size ∧ ∀ D ∈ ds, W.heap[D]? = some (.deferred (some [])))
      (own_go _ (Nat.le_refl _)) (fun c => ?ownx)
      ⟨fun _ h => absurd h List.not_mem_nil, Below.refl _ _⟩
      (fun (x : Lk) (a' : Act) (W : World) => ∃ b6 : Nat, a' = { tmps := #[.agg (tr ⟨s⟩), u, vb, vj, .pointer (some ⟨w.heap.size, 0, none⟩), undef, undef, undef, .slice none 0 0, .func (.func 84) #[] #[.pointer (some ⟨b, 0, none⟩)], .pointer (some ⟨bo, 0, none⟩), .pointer (some ⟨bt, 0, none⟩), .pointer (some ⟨b6, 0, none⟩), .agg (tr ⟨s⟩), u, vb, .func (.func 84) #[] #[.pointer (some ⟨b, 0, none⟩)], vj, .slice pv js.length cv, vj, .map (some bm), .func (.func 84) #[] #[.pointer (some ⟨b, 0, none⟩)], .agg (lk x), undef, undef, undef, undef, undef, undef, undef, undef, undef, undef, undef, undef, undef, undef, undef, undef, undef, undef, undef, undef, undef], defers := [] } ∧ W.heap[b6]? = some (.cells (lk x) 63 (0, 0)))
      (fun x a' s X Y row ⟨b6, e, h⟩ hg hr => ⟨b6, e, (hg.block b6 (Array.getElem?_eq_some_iff.1 h).1 (fun e => by obtain ⟨_, o, ho, hc⟩ := hr b6 e.symm; rw [h] at ho; cases ho; cases hc)).trans h⟩) ?assign ?body ?done ?stop
    case ownx =>
      refine ownFrom_tn fun pre W W' bs ⟨⟨h1, ys, x, h2, h3, h4, v', h5⟩, h6, h7⟩ t hbs => ?_
      refine ⟨⟨h1, ys, x, h2, h3, h4, v', mow_own (B := wr.heap.size) (by have := HSZ.out; have := HSW.out; omega) (by have := HSZ.out; have := HSW.out; omega) (by have := HSZ.out; have := HSW.out; omega) (by have := HSZ.out; have := HSW.out; omega) h5 (by have := HSZ.out; have := HSW.out; omega) t hbs⟩, Nat.le_trans h6 t.size, fun D hD => t.heap (h7 D hD) fun e => ?_⟩
      have := (hbs D e).1
      have := (Array.getElem?_eq_some_iff.1 (HDS.out D hD).1).1
      omega
    case assign =>
      intro lo pre x W K hI hK
      gi_wp2
      refine hK _ _ ((KeepsOthers.alloc _ _).from _) (But.of_below (below1.mono (by have := hI.2.size; have := HSZ.out; have := HSW.out; omega)) (Nat.le_refl _)) ⟨hI.1, belowT hI.2 below1⟩ ⟨W.heap.size, rfl, heap_alloc_last W _⟩
    case body =>
      rintro lo pre x a' W hlo ⟨rr, hr⟩ ⟨hp, hB⟩ ⟨b6, rfl, h6⟩ hlen
      have M0 : Hid (Mow s1 bo bt bm k.length w1 v k k W) := M.out.keep hB (by have := HSZ.out; have := HSW.out; omega)
      have HP := Lib.hid hp
      have HBW := Lib.hid hB
      have H6 := Lib.hid h6
      have HFs := Lib.hid (groupHas bm k.length k x.s W M0.out.set)
      have HFt := Lib.hid (fun V (g : Below W.heap.size W V) => groupHas bm k.length k x.t V (M0.out.set.keep g))
      have c1 := (cell_of_box M0.out.mbx).1
      have c2 := (lk_v h6).s
      have HFk : Hid (freshK k x = (decide (x.s ∈ k) && !decide (x.t ∈ k))) := rfl
      obtain ⟨p1, hp1⟩ : ∃ p1, p1 = decide (x.s ∈ k) := ⟨_, rfl⟩
      obtain ⟨p2, hp2⟩ : ∃ p2, p2 = decide (x.t ∈ k) := ⟨_, rfl⟩
      rw [← hp1] at HFs HFk
      rw [← hp2] at HFt HFk
      have HPn : Hid (freshK k x = false → ∀ y ∈ pre ++ [x], freshK k y = false) := fun e y hy => by
        rcases List.mem_append.1 hy with h | h
        · exact HP.out y h
        · rw [List.mem_singleton] at h; subst h; exact e
      have HS5 : Hid (s1 ≤ W.heap.size ∧ wr.heap.size ≤ W.heap.size) := ⟨by have := HSZ.out; have := HSW.out; have := HBW.out.size; omega, HBW.out.size⟩
      clear hlen h6 hr hp hB hp1 hp2
      gi_wp2
      refine ⟨trivial, (callsIn_wide.2 HFs.out).mono ?_⟩
      rintro e W1 ⟨rfl, g1⟩
      have HG1 := Lib.hid g1
      replace M0 := Lib.hid (M0.out.keep g1 HS5.out.1)
      replace H6 := Lib.hid (blk_keep g1 H6.out)
      clear g1 c1 c2 HFs
      cases p1
      · gi_wp2
        refine ⟨trivial, ?_⟩
        gi_wp2
        exact ⟨KeepsFrom.of_grownBy (grown_of_below HG1.out) (fun j e => by cases e), But.of_below (HG1.out.mono HS5.out.1) (Nat.le_refl _), HPn.out (by rw [HFk.out]; rfl), belowT HBW.out HG1.out⟩
      · have c1 := (cell_of_box M0.out.mbx).1
        have c2 := (lk_v H6.out).t
        gi_wp2
        refine ⟨trivial, (callsIn_wide.2 (HFt.out W1 HG1.out)).mono ?_⟩
        rintro e W2 ⟨rfl, g2⟩
        have HG2 : Hid (Below W.heap.size W W2) := belowT HG1.out g2
        replace M0 := Lib.hid (M0.out.keep g2 (Nat.le_trans HS5.out.1 HG1.out.size))
        replace H6 := Lib.hid (blk_keep g2 H6.out)
        clear g2 c1 c2 HG1 HFt
        cases p2
        · obtain ⟨m, hm⟩ : ∃ m, m = k.length := ⟨_, rfl⟩
          obtain ⟨vp, vc, rfl⟩ := ownE_len M0.out.own hm.symm
          have HMk := Lib.hid hm
          have HS2 : Hid (s1 ≤ W2.heap.size) := Nat.le_trans HS5.out.1 HG2.out.size
          obtain ⟨y1, y2⟩ := cell_of_box M0.out.box
          have y3 := (lk_v H6.out).t
          have HFr : Hid (freshK k x = true) := by show _ = true; rw [HFk.out]; rfl
          have HBo : Hid (b6 ≠ bo) := by
            rintro rfl
            have h1 := H6.out
            rw [M0.out.box] at h1
            injection h1 with h1
            injection h1 with h1
            have := congrArg Array.size h1
            rw [lk_size] at this
            cases this
          have HBv : Hid (∀ v, OwnE Ecc W2 s1 v k → v.ownBlock ≠ some b6) := fun v h e => own_ne_type h H6.out (by decide) e
          have HDm : Hid (∀ E ∈ ds, W2.heap[E]? = some (.deferred (some []))) := fun E hE => blk_keep HG2.out (blk_keep HBW.out (HDS.out E hE).1)
          clear hm
          gi_wp2_with (gi_at_builtin; refine wpListIn_append_E Kcc _ rfl (.tmp 34) (.tmp 37) rfl s1 _ k rfl (ownE_alloc M0.out.own _) _ [x.t] rfl (cc_lit1 _ x.t _ rfl) (by have := HKl.out; simp; omega) (by have := HS2.out; simp; omega) ?_; intro v' w' ho' hgr'; obtain ⟨np, nc, hv⟩ := ownE_len ho' (n := m + 1) (by rw [List.length_append, HMk.out]; rfl); rw [hv] at ho' hgr' ⊢; clear hv; have HGR := Lib.hid hgr'; have M1 : Hid (Mow s1 bo bt bm k.length w1 (.slice np (m + 1) nc) (k ++ [x.t]) k (w'.setCell ⟨bo, 0, none⟩ (.slice np (m + 1) nc))) := (M0.out.keep below1 HS2.out).app HSZ.out.2.1 HSZ.out.2.2.1 HSZ.out.2.2.2.1 ho' hgr'; have H7 : Hid ((w'.setCell ⟨bo, 0, none⟩ (.slice np (m + 1) nc)).heap[b6]? = some (.cells (lk x) 63 (0, 0))) := ((Below.heap_setCell _ _ _ _ HBo.out).trans (hgr'.heap (blk_keep below1 H6.out) (HBv.out _ M0.out.own))); have HDw : Hid (∀ E ∈ ds, (w'.setCell ⟨bo, 0, none⟩ (.slice np (m + 1) nc)).heap[E]? = some (.deferred (some []))) := (fun E hE => (Below.heap_setCell _ _ _ _ (show E ≠ bo by have := (HDS.out E hE).2; have := HSZ.out; omega)).trans (hgr'.heap (blk_keep below1 (HDm.out E hE)) (fun e => by have := own_cells M0.out.own e (HDm.out E hE); cases this))); have z1 := (cell_of_box (hgr'.heap (M0.out.keep (below1 (o := .cells (cc x.t) 32)) HS2.out).box (fun e => (M0.out.off _ e).1 rfl))).1; have z2 := (cell_of_box (hgr'.heap (M0.out.keep (below1 (o := .cells (cc x.t) 32)) HS2.out).box (fun e => (M0.out.off _ e).1 rfl))).2; have z3 := (cell_of_box M1.out.mbx).1; have z4 := (lk_v H7.out).t; clear ho' hgr' y1 y2 y3)
          refine ⟨trivial, (callsIn_wide.2 (groupPut bm k.length k x.t _ M1.out.set (by have := HKl.out; omega))).mono ?_⟩
          rintro e V3 ⟨⟨vv, rfl⟩, hown, hgr⟩
          have M2 : Hid (Mow s1 bo bt bm (k.length + 1) w1 (.slice np (m + 1) nc) (k ++ [x.t]) (k ++ [x.t]) V3) := M1.out.put HSZ.out.2.1 HSZ.out.2.2.1 HSZ.out.2.2.2.1 hown hgr
          have HDv : Hid (∀ E ∈ ds, V3.heap[E]? = some (.deferred (some []))) := fun E hE => (hgr.block E (Array.getElem?_eq_some_iff.1 (HDw.out E hE)).1 (fun e => by cases e; have := (HDS.out _ hE).2; have := HSZ.out; omega)).trans (HDw.out E hE)
          have HGr := Lib.hid hgr
          clear hown hgr z1 z2 z3 z4
          gi_wp2
          have k1 : KeepsFrom wr.heap.size W W2 := KeepsFrom.of_grownBy (grown_of_below HG2.out) (fun j e => by cases e)
          have k2 : KeepsFrom wr.heap.size W2 (w'.setCell ⟨bo, 0, none⟩ (.slice np (m + 1) nc)) := (((KeepsOthers.alloc _ _).trans (KeepsOthers.of_grownBy HGR.out.1 (fun j o e hj => own_cellsR (ownE_alloc M0.out.own _) e hj))).trans (KeepsOthers.setCell _ _ _)).from _
          have k3 : KeepsFrom wr.heap.size (w'.setCell ⟨bo, 0, none⟩ (.slice np (m + 1) nc)) V3 := KeepsFrom.of_grownBy HGr.out (fun j e => by cases e; have := HSZ.out; have := HSW.out; omega)
          exact ⟨(k1.trans k2).trans k3, ⟨rfl, pre, x, rfl, HP.out, HFr.out, _, M2.out⟩, Nat.le_trans HS5.out.2 ((k1.trans k2).trans k3).size, HDv.out⟩
        · gi_wp2
          exact ⟨KeepsFrom.of_grownBy (grown_of_below HG2.out) (fun j e => by cases e), But.of_below (HG2.out.mono HS5.out.1) (Nat.le_refl _), HPn.out (by rw [HFk.out]; rfl), belowT HBW.out HG2.out⟩
    case done =>
      rintro D ys W hD rfl ⟨hp, hB⟩ hK
      have HX : Hid (k = r) := by show k = r; rw [← HE.out]; exact (HOld.out k hp).symm
      have M1 : Hid (Mow s1 bo bt bm k.length w1 v k k W) := M.out.keep hB (by have := HSZ.out; have := HSW.out; omega)
      obtain ⟨vp, vc, rfl⟩ := ownE_shape M1.out.own
      have HKD := Lib.hid hK
      have HDD := Lib.hid hD
      have HBf : Hid (Below w.heap.size w W) := by
        have h1 : Below s1 w1 W := M1.out.old
        exact G1.out.trans (h1.mono HSZ.out.1)
      have HSw : Hid (wr.heap.size ≤ W.heap.size) := hB.size
      have HDs : Hid (∀ E ∈ ds, W.heap[E]? = some (.deferred (some []))) := fun E hE => blk_keep hB (HDS.out E hE).1
      obtain ⟨m, hm⟩ : ∃ m, m = k.length := ⟨_, rfl⟩
      have c1 := (cell_of_box M1.out.box).1
      rw [← hm] at c1
      have HMm := Lib.hid hm
      clear hp hB hK hD hm
      go_wp2_with fail
      (try rw [Exit.noGoto_ret])
      refine leave_Ms (D :: ds) _ ?nd ?dd fun W' hT => ?fin
      case nd =>
        refine List.nodup_cons.2 ⟨fun hE => ?_, HND.out⟩
        have := (Array.getElem?_eq_some_iff.1 (HDS.out D hE).1).1
        have := HDD.out
        omega
      case dd =>
        intro E hE
        rcases List.mem_cons.1 hE with rfl | hE
        · exact HKD.out
        · exact HDs.out E hE
      case fin =>
        refine ⟨.slice vp m vc, by simp [results, Try.results12, go_sem], HRr.out _ _ ?_ ?_⟩
        · have e := M1.out.own
          rw [← HMm.out, HX.out] at e
          refine ownE_base (hT.own e fun q hq hE => ?_) HSZ.out.1
          have hdef : W.heap[q]? = some (.deferred (some [])) := by
            rcases List.mem_cons.1 hE with rfl | hE
            · exact HKD.out
            · exact HDs.out q hE
          have := own_cells e hq hdef
          cases this
        · refine hT.below HBf.out (fun q hE => ?_) HBf.out.size
          rcases List.mem_cons.1 hE with rfl | hE
          · have := HDD.out; have := HSZ.out; have := HSW.out; omega
          · have := (HDS.out q hE).2; have := HSZ.out; omega
    case stop =>
      rintro D c pre W hD hpre ⟨⟨rfl, ys, x, hys, hf1, hf2, v', hmo⟩, hsw, hdd⟩ hK
      obtain ⟨hn1, hn2⟩ := HNew.out k ys x (by rw [← hys]; exact hpre) hf1 hf2
      have HKD := Lib.hid hK
      have HDD := Lib.hid hD
      have M1 : Hid (Mow s1 bo bt bm (k ++ [x.t]).length w1 v' (k ++ [x.t]) (k ++ [x.t]) W) := by
        show Mow _ _ _ _ _ _ _ _ _ _
        rw [List.length_append]
        exact hmo
      have HN1 : Hid (moreL l ls bal (k ++ [x.t]) = r) := hn1.trans HE.out
      have HN2 := Lib.hid hn2
      have HSw := Lib.hid hsw
      have HDd := Lib.hid hdd
      clear hK hD hmo hn1 hn2 hsw hdd hf1 hf2 hys hpre
      gi_wp2
      go_wp2_with fail
      refine ⟨⟨v', k ++ [x.t], _, D :: ds, M1.out, ?s1, HN1.out, Nat.le_trans HSW.out HSw.out, ?s4, ?s5, rfl⟩, ?s7⟩
      case s1 => rw [List.length_append]; have := HN2.out; have := HLn.out; simp; omega
      case s4 =>
        intro E hE
        rcases List.mem_cons.1 hE with rfl | hE
        · exact ⟨HKD.out, Nat.le_trans HSW.out HDD.out⟩
        · exact ⟨HDd.out E hE, (HDS.out E hE).2⟩
      case s5 =>
        refine List.nodup_cons.2 ⟨fun hE => ?_, HND.out⟩
        have := (Array.getElem?_eq_some_iff.1 (HDS.out D hE).1).1
        have := HDD.out
        omega
      case s7 =>
        show _ - lenAt W bo < _ - lenAt wr bo
        rw [HMu.out, lenAt_mow M1.out, List.length_append]
        have := HN2.out; have := HLn.out; simp; omega
theorem progMore (s : SlV) (u vb vj : Value) (l : List Nd) (ls : List Lk) (bal : List UInt64) (js : List Ck) (w : World) (h : SlE Ene w (sv s) l) (h1 : SlE Elk w u ls) (h2 : SlE Enum w vb bal) (h3 : SlE Ecc w vj js) (hn : js.length ≤ 1000) (hm : ls.length ≤ 1000) :
    Calls Try.prog 12 #[.agg (tr ⟨s⟩), u, vb, vj] w (MorR l ls bal js w) := progMore_n s u vb vj l ls bal js w h h1 h2 h3 hn hm
end Go.Proofs.Ytlhnjaeocoafnaa
