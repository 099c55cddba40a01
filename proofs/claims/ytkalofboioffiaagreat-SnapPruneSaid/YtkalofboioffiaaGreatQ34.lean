import Derived.Test.YtkalofboioffiaaGreatQ33
import Derived.OwnWalk
namespace Go.Proofs.YtkalofboioffiaaGreat
open Go.RowKit
set_option maxRecDepth 200000
set_option maxHeartbeats 64000000
section
open Go.Shelf
attribute [local go_sem] Oper.semAt_some
@[local go_sem ↓ high] theorem ynw {P : Program} (l : Option Nat) (ρ : Operand → Value) (o : Oper) (w : World) (h : ∀ c, o.op ≠ .defer c) : (Oper.semAt l ρ o).run P w = (execOp ρ o).run P w := by rw [Oper.semAt_eq l ρ o h]
theorem zw7 (x y : Vo) (p : Option Addr) (n c : Nat) (w : World) :
  Calls Tryz.prog 151 #[.agg (vo x), .agg (vo y), .slice p n c] w fun e w' => e = .returned (.func (.func 176) #[] #[.pointer (some ⟨w.heap.size + 1, 0, none⟩), .pointer (some ⟨w.heap.size, 0, none⟩), .pointer (some ⟨w.heap.size + 1 + 1, 0, none⟩)]) ∧ w' = ((w.alloc (.cells (vo x) 29)).alloc (.cells (vo y) 29)).alloc (.cells #[.slice p n c] 25) := by
 go_enter Tryz.func151, Tryz.ntmps151
 go_wp2_with fail
 go_ret
 exact ⟨rfl, rfl⟩
theorem zhv : ∀ args w, (callFunc 151 args).run Tryz.prog w = .ok (.enter 151 args) w := zbe Tryz.func151 (by kernel_rfl) (by kernel_rfl)
def nwB (v o : Vt) (k : Nat) : Bool := (lat v.l k).has && decide (lat v.l k ≠ lat o.l k)
def nwT (v o : Vt) (n : Nat) : List Nat := (List.range n).filter (nwB v o)
theorem zvn {v o : Vt} {n : Nat} (h : nwB v o n = true) : nwT v o (n + 1) = nwT v o n ++ [n] := by unfold nwT; rw [List.range_succ, List.filter_append]; simp [h]
theorem yb1 {v o : Vt} {n : Nat} (h : nwB v o n = false) : nwT v o (n + 1) = nwT v o n := by unfold nwT; rw [List.range_succ, List.filter_append]; simp [h]
theorem yb2 (v o : Vt) (n : Nat) : ∀ d, nwT v o n <+: nwT v o (n + d)
 | 0 => List.prefix_refl _
 | d + 1 => by
  have ih := yb2 v o n d
  cases h : nwB v o (n + d)
  ·
   rw [show n + (d + 1) = n + d + 1 from rfl, yb1 h]; exact ih
  ·
   rw [show n + (d + 1) = n + d + 1 from rfl, zvn h]; exact ih.trans (List.prefix_append _ _)
theorem yb0 {v o : Vt} {n m : Nat} (h : n ≤ m) : nwT v o n <+: nwT v o m := by
 have := yb2 v o n (m - n)
 rwa [show n + (m - n) = m by omega] at this
theorem ym8 (v o : Vt) (n : Nat) : (nwT v o n).length ≤ n := by
 unfold nwT
 have := List.length_filter_le (nwB v o) (List.range n)
 rwa [List.length_range] at this
theorem ymz {v o : Vt} {n k : Nat} : k ∈ nwT v o n ↔ k < n ∧ nwB v o k = true := by unfold nwT; rw [List.mem_filter, List.mem_range]
theorem zg1 {B b o : Nat} {W W' : World} {cs : List Value} (g : Below B W W') (hb : b < B) (h : W.rangeAt b o cs) : W'.rangeAt b o cs := fun j v hv => (g.cell (p := ⟨b, o + j, none⟩) hb).trans (h j v hv)
theorem z6r (d s0 bv bb bl b1 o1 c1 b2 o2 c2 b3 o3 c3 m : Nat) (v o : Vt) (bal : List UInt64) (w : World) (hs0 : s0 ≤ w.heap.size) (hm : m ≤ 1000) (hv : v.l.length = m) (ho : o.l.length = m) (hb : bal.length = m) (q1 : bv < s0) (q2 : bb < s0) (q3 : bl < s0) (q4 : b1 < s0) (q5 : b2 < s0) (q6 : b3 < s0)
  (t0 : w.heap[bv]? = some (.cells (vo ⟨⟨some ⟨b1, o1, none⟩, m, c1⟩, v.out⟩) 29 (0, 0))) (t1 : w.heap[bb]? = some (.cells (vo ⟨⟨some ⟨b2, o2, none⟩, m, c2⟩, o.out⟩) 29 (0, 0))) (t2 : w.heap[bl]? = some (.cells #[.slice (some ⟨b3, o3, none⟩) m c3] 25 (0, 0)))
  (x1 : w.rangeAt b1 o1 (zaq Elt v.l)) (x2 : w.rangeAt b2 o2 (zaq Elt o.l)) (x3 : w.rangeAt b3 o3 (zaq Enum bal)) :
  SeqStopsK Fence.wide d Tryz.prog 176 #[.pointer (some ⟨bv, 0, none⟩), .pointer (some ⟨bb, 0, none⟩), .pointer (some ⟨bl, 0, none⟩)] (fun x : { x : Nat // x ∈ nwT v o m } => #[Value.agg (lt (lat v.l x.1)), Value.int .u64 (fn bal x.1 : Int)]) (Below s0) (fun ys => ys.map Subtype.val = nwT v o m) (fun pre => pre.map Subtype.val <+: nwT v o m) (nwT v o m).length w := by
 intro lo J Jx W hW hAJ _ hY hJ0
 have HT : Hid (∀ W', Below s0 w W' → W'.heap[bv]? = some (.cells (vo ⟨⟨some ⟨b1, o1, none⟩, m, c1⟩, v.out⟩) 29 (0, 0)) ∧ W'.heap[bb]? = some (.cells (vo ⟨⟨some ⟨b2, o2, none⟩, m, c2⟩, o.out⟩) 29 (0, 0)) ∧ W'.heap[bl]? = some (.cells #[.slice (some ⟨b3, o3, none⟩) m c3] 25 (0, 0))) := fun W' g => ⟨(g.block _ q1).trans t0, (g.block _ q2).trans t1, (g.block _ q3).trans t2⟩
 have HX : Hid (∀ W', Below s0 w W' → W'.rangeAt b1 o1 (zaq Elt v.l) ∧ W'.rangeAt b2 o2 (zaq Elt o.l) ∧ W'.rangeAt b3 o3 (zaq Enum bal)) := fun W' g => ⟨zg1 g q4 x1, zg1 g q5 x2, zg1 g q6 x3⟩
 have HG0 : Hid (Below s0 w W) := hW.mono hs0
 have HS : Hid (∀ W', Below s0 w W' → s0 ≤ W'.heap.size) := fun W' g => Nat.le_trans hs0 g.size
 have HAJ : Hid (∀ pre W1 W', J pre W1 → Below W1.heap.size W1 W' → J pre W') := fun pre W1 W' hj g => hAJ pre W1 W' none hj (zbl g) (fun r e => by cases e)
 have HY := Lib.hid hY
 have HJ0 := Lib.hid hJ0
 have HM := Lib.hid hm
 have HL := Lib.hid (show v.l.length = m ∧ o.l.length = m ∧ bal.length = m from ⟨hv, ho, hb⟩)
 clear hY hJ0 hW hAJ t0 t1 t2 x1 x2 x3 hs0 hm hv ho hb q1 q2 q3 q4 q5 q6
 have hmix : Tryz.prog.follows .mixedOrders = true := by kernel_rfl
 obtain ⟨z0, _⟩ := zb5 (HT.out _ HG0.out).1
 dsimp only at z0
 rw [za7] at z0
 refine callsIn_of_wp Tryz.func176 rfl trivial ?_ rfl
 simp only [Tryz.ntmps176, List.size_toArray, List.length_cons, List.length_nil, Nat.reduceAdd, Nat.reduceSub, Array.replicate_succ, Array.replicate_zero, List.push_toArray, List.append_toArray, List.nil_append, List.cons_append]
 gi_wp2
 clear z0
 gi_loopw [10] (fun u wr => ∃ (pre : List { x : Nat // x ∈ nwT v o m }) (j : Nat), u = .int .i64 (j : Int) ∧ j ≤ m ∧ pre.map Subtype.val = nwT v o j ∧ Below s0 w wr ∧ J pre wr) (fun u _ => m - (intOf u).toNat)
 case atStart => exact ⟨[], 0, rfl, Nat.zero_le _, rfl, HG0.out, HJ0.out⟩
 case round =>
  obtain ⟨pre, j, rfl, hj, hpre, hg, hjj⟩ := hrel
  have HG := Lib.hid hg
  have HJ := Lib.hid hjj
  have HE := Lib.hid hpre
  clear hg hjj hpre
  by_cases hlt : j < m
  ·
   have d0 : decide ((j : Int) < (m : Int)) = true := decide_eq_true (by omega)
   have d0' : decide (j < m) = true := decide_eq_true hlt
   have i0 : (0 : Int) ≤ (j : Int) := by omega
   have i1 : (j : Int) < (m : Int) := by omega
   have u1 : (j : Int) + 1 < 10000 := by have := HM.out; omega
   have HLT := Lib.hid hlt
   obtain ⟨hx1, hx2, hx3⟩ := HX.out _ HG.out
   have y1 := zqa hx1 (i := j) (by have := HL.out.1; omega)
   have y2 := zqa hx2 (i := j) (by have := HL.out.2.1; omega)
   have y3 := zd4 hx3 (i := j) (by have := HL.out.2.2; omega)
   obtain ⟨k0, k1, k2⟩ := HT.out _ HG.out
   have HN : Hid (nwB v o j = ((lat v.l j).has && decide (lat v.l j ≠ lat o.l j))) := rfl
   have HYj : Hid (∀ (hin : j ∈ nwT v o m) W1, J pre W1 → pre.length < (nwT v o m).length → YieldAt Fence.wide (d - 1) Tryz.prog lo #[Value.agg (lt (lat v.l j)), Value.int .u64 (fn bal j : Int)] W1 fun e W' => (e = .returned (.bool true) ∧ J (pre ++ [⟨j, hin⟩]) W' ∧ Below s0 W1 W') ∨ (e = .returned (.bool false) ∧ Jx (pre ++ [⟨j, hin⟩]) W')) := fun hin W1 h1 h2 => HY.out pre ⟨j, hin⟩ W1 h1 h2
   generalize lat v.l j = X at *
   generalize lat o.l j = Y at *
   generalize fn bal j = B at *
   obtain ⟨H, hH⟩ : ∃ H, H = X.has := ⟨_, rfl⟩
   obtain ⟨df, hdf⟩ : ∃ df, df = decide (X = Y) := ⟨_, rfl⟩
   have HN2 : Hid (nwB v o j = (H && !df)) := by show nwB v o j = _; rw [HN.out, hH, hdf, decide_not]
   have HLP : Hid (nwB v o j = true → ∃ hin : j ∈ nwT v o m, pre.length < (nwT v o m).length ∧ nwT v o (j + 1) = nwT v o j ++ [j]) := fun e => by
    refine ⟨ymz.2 ⟨hlt, e⟩, ?_, zvn e⟩
    have h1 := (yb0 (v := v) (o := o) (show j + 1 ≤ m from hlt)).length_le
    have h2 := congrArg List.length HE.out
    rw [List.length_map] at h2
    rw [zvn e, List.length_append, ← h2] at h1
    exact h1
   have HPF : Hid (nwB v o j = true → ∀ hin : j ∈ nwT v o m, (pre ++ [(⟨j, hin⟩ : { x // x ∈ nwT v o m })]).map Subtype.val = nwT v o (j + 1)) := fun e hin => by
    show ((pre ++ [(⟨j, hin⟩ : { x // x ∈ nwT v o m })]).map Subtype.val) = _
    rw [zvn e, List.map_append, HE.out]; rfl
   clear hj hlt
   gi_wp2
   obtain ⟨W5, hW5⟩ : ∃ W5, W5 = wr.alloc (.cells (lt X) 115) := ⟨_, rfl⟩
   rw [← hW5]
   have hB5 : Below wr.heap.size wr W5 := by rw [hW5]; exact below1
   have n5 : W5.heap[wr.heap.size]? = some (.cells (lt X) 115 (0, 0)) := by rw [hW5]; exact heap_alloc_last wr _
   have HG5 : Hid (Below s0 w W5.drew) := HG.out.trans ((zak hB5 1).mono (HS.out _ HG.out))
   have HJ5 : Hid (J pre W5.drew) := HAJ.out _ _ _ HJ.out (zak hB5 1)
   have e0 := (zgg n5).1
   rw [← hH] at e0
   have e1 := zag n5 (zqj X)
   have e2 := (zb5 (zab hB5 k1)).1
   dsimp only at e2
   rw [za7] at e2
   have e3 := keep hB5 y2
   have e4 := (zaj (zab hB5 k2)).1
   have e5 : W5.cell? ⟨b3, o3 + j, none⟩ = some (.int .u64 (B : Int)) := (hB5.cell (p := ⟨b3, o3 + j, none⟩) (block_lt_of_cell y3)).trans y3
   have L0 := fun q : Wd W5.drew => zay e0 q
   have L1 := fun q : Wd W5.drew => za8 e1 (by decide) q
   have L2 := fun q : Wd W5.drew => zay e2 q
   have L3 := fun q : Wd W5.drew => za8 e3 (by decide) q
   have L4 := fun q : Wd W5.drew => zay e4 q
   have L5 := fun q : Wd W5.drew => zay e5 q
   have tD : decide (X = Y) = df := hdf.symm
   clear hW5 hB5 n5 e0 e1 e2 e3 e4 e5 y1 y2 y3 k0 k1 k2 hx1 hx2 hx3 hH hdf HN
   obtain ⟨b5, hb5⟩ : ∃ b5, b5 = wr.heap.size := ⟨_, rfl⟩
   rw [← hb5] at L0 L1 ⊢
   clear hb5
   cases H
   ·
    have HE2 : Hid (nwT v o (j + 1) = nwT v o j) := yb1 (by rw [HN2.out]; rfl)
    refine ze4 [0, 1, 2, 3, 4, 5, 6, 7, 8, 9, 10, 11, 12, 13, 14, 15, 16, 17] [18] (by kernel_rfl) (by kernel_rfl) (by kernel_rfl) ?_
    repeat (first | (refine zi1 rfl rfl rfl ?_; (first | go_big_quiet_step (fail) | quiet_step (fail)); refine wpQuiet_nil ?_) | refine znn rfl ?_)
    refine zgk rfl rfl ?_; (first | go_big_quiet_step (fail) | quiet_step (fail)); refine wpQuiet_nil ?_
    refine zmc ?_
    gi_wp2
    go_roundw
    case rel => exact ⟨pre, j + 1, by go_num, HLT.out, by rw [HE2.out]; exact HE.out, HG5.out, HJ5.out⟩
    case measure => simp [intOf]; have := HLT.out; omega
   ·
    cases df
    ·
     have HNT : Hid (nwB v o j = true) := by show _ = true; rw [HN2.out]; rfl
     obtain ⟨hin, hln, hup⟩ := HLP.out HNT.out
     have HP := Lib.hid (HPF.out HNT.out hin)
     have HUP := Lib.hid hup
     obtain ⟨fn, tmps, assign, body, hy, hR⟩ := HYj.out hin W5.drew HJ5.out hln
     have HRR := Lib.hid hR
     clear hR hln hup
     refine ze4 [0, 1, 2, 3, 4, 5, 6, 7, 8, 9, 10, 11, 12, 13, 14, 15, 16, 17] [18] (by kernel_rfl) (by kernel_rfl) (by kernel_rfl) ?_
     repeat (first | (refine zi1 rfl rfl rfl ?_; (first | go_big_quiet_step (fail) | quiet_step (fail)); refine wpQuiet_nil ?_) | refine znn rfl ?_)
     refine z2g rfl rfl rfl rfl (by kernel_rfl) #[.agg (lt X), .int .u64 (B : Int)] rfl ⟨fn, tmps, assign, body, hy, RoundIn.mono HRR.out ?_⟩
     rintro e W3 (⟨rfl, hJ3, hk3⟩ | ⟨rfl, hJx3⟩)
     ·
      have HG3 := Lib.hid (HG5.out.trans hk3)
      have HJ3 := Lib.hid hJ3
      clear hJ3 hk3
      refine ⟨_, rfl, ?_⟩
      simp only [Act.put, List.setIfInBounds_toArray, List.set_cons_zero, List.set_cons_succ]
      repeat (refine zgk rfl rfl ?_; (first | go_big_quiet_step (fail) | quiet_step (fail)); refine wpQuiet_nil ?_)
      refine zmc ?_
      gi_wp2
      go_roundw
      case rel => exact ⟨pre ++ [⟨j, hin⟩], j + 1, by go_num, HLT.out, HP.out, HG3.out, HJ3.out⟩
      case measure => simp [intOf]; have := HLT.out; omega
     ·
      have HJ3 := Lib.hid hJx3
      clear hJx3
      refine ⟨_, rfl, ?_⟩
      simp only [Act.put, List.setIfInBounds_toArray, List.set_cons_zero, List.set_cons_succ]
      repeat (refine zgk rfl rfl ?_; (first | go_big_quiet_step (fail) | quiet_step (fail)); refine wpQuiet_nil ?_)
      refine zmc ?_
      gi_wp2
      refine bodyPost_ret (results_none rfl _ _ _) rfl ?_
      exact ⟨⟨_, rfl⟩, .inr ⟨pre ++ [⟨j, hin⟩], by rw [HP.out]; exact yb0 HLT.out, HJ3.out⟩⟩
    ·
     have HE2 : Hid (nwT v o (j + 1) = nwT v o j) := yb1 (by rw [HN2.out]; rfl)
     refine ze4 [0, 1, 2, 3, 4, 5, 6, 7, 8, 9, 10, 11, 12, 13, 14, 15, 16, 17] [18] (by kernel_rfl) (by kernel_rfl) (by kernel_rfl) ?_
     repeat (first | (refine zi1 rfl rfl rfl ?_; (first | go_big_quiet_step (fail) | quiet_step (fail)); refine wpQuiet_nil ?_) | refine znn rfl ?_)
     refine zgk rfl rfl ?_; (first | go_big_quiet_step (fail) | quiet_step (fail)); refine wpQuiet_nil ?_
     refine zmc ?_
     gi_wp2
     go_roundw
     case rel => exact ⟨pre, j + 1, by go_num, HLT.out, by rw [HE2.out]; exact HE.out, HG5.out, HJ5.out⟩
     case measure => simp [intOf]; have := HLT.out; omega
  ·
   obtain rfl : j = m := by omega
   clear hlt
   gi_wp2
   go_end0
   exact ⟨⟨_, rfl⟩, .inl ⟨pre, HE.out, HJ.out⟩⟩
theorem zxb : ∀ args w, (callFunc 176 args).run Tryz.prog w = .ok (.enter 176 args) w := zbe Tryz.func176 (by kernel_rfl) (by kernel_rfl)
end
def accF (l : List Nd) (v : Vt) (bal : List UInt64) (ks : List Nat) (i : Nat) : Nat := (ks.map fun k => if (lat v.l k).root = (nd l i).root then fn bal k else 0).sum
section
variable {l : List Nd} {v o : Vt} {bal : List UInt64}
theorem yko (i : Nat) : accF l v bal [] i = 0 := rfl
theorem zoe (ks : List Nat) (k i : Nat) : accF l v bal (ks ++ [k]) i = accF l v bal ks i + (if (lat v.l k).root = (nd l i).root then fn bal k else 0) := by
 unfold accF
 rw [List.map_append, List.sum_append]
 simp
theorem yo3 {B : Nat} (h : ∀ k, fn bal k ≤ B) (ks : List Nat) (i : Nat) : accF l v bal ks i ≤ ks.length * B := by
 unfold accF
 induction ks with
 | nil => simp
 | cons k ks ih =>
  rw [List.map_cons, List.sum_cons, List.length_cons, Nat.add_mul, Nat.one_mul]
  have := h k
  split <;> omega
theorem ypy {k : Nat} (h : bal.length ≤ k) : fn bal k = 0 := by
 unfold fn
 rw [List.getD_eq_getElem?_getD, List.getElem?_eq_none h]
 rfl
theorem yku (h : mayB bal = true) (k : Nat) : fn bal k ≤ 1099511627776 := by
 by_cases hk : k < bal.length
 ·
  exact (zer.1 h).2.2 k hk
 ·
  rw [ypy (by omega)]; omega
theorem ykn (i n : Nat) : accF l v bal ((List.range n).filter fun k => (lat v.l k).has && decide (lat v.l k ≠ lat o.l k)) i = selF (newB l v o i) (fn bal) n := by
 induction n with
 | zero => rfl
 | succ n ih =>
  rw [List.range_succ, List.filter_append]
  cases hn : ((lat v.l n).has && decide (lat v.l n ≠ lat o.l n))
  ·
   have e : List.filter (fun k => (lat v.l k).has && decide (lat v.l k ≠ lat o.l k)) [n] = [] := by rw [List.filter_cons, if_neg (by rw [hn]; exact Bool.false_ne_true)]; rfl
   rw [e, List.append_nil, ih]
   have e2 : newB l v o i n = false := by
    unfold newB forB
    rw [Bool.and_assoc, Bool.and_comm (decide ((lat v.l n).root = (nd l i).root)), ← Bool.and_assoc, hn, Bool.false_and]
   rw [yc1 e2]
  ·
   have e : List.filter (fun k => (lat v.l k).has && decide (lat v.l k ≠ lat o.l k)) [n] = [n] := by rw [List.filter_cons, if_pos hn]; rfl
   rw [e, zoe, ih]
   have e2 : newB l v o i n = decide ((lat v.l n).root = (nd l i).root) := by
    unfold newB forB
    rw [Bool.and_assoc, Bool.and_comm (decide ((lat v.l n).root = (nd l i).root)), ← Bool.and_assoc, hn, Bool.true_and]
   by_cases hr : (lat v.l n).root = (nd l i).root
   ·
    rw [if_pos hr, yh0 (by rw [e2]; exact decide_eq_true hr)]
   ·
    rw [if_neg hr, yc1 (by rw [e2]; exact decide_eq_false hr), Nat.add_zero]
theorem zm4 {f g : Nat → Nat} : ∀ {n : Nat}, (∀ i, i < n → f i = g i) → zc9 f n = zc9 g n
 | 0, _ => rfl
 | n + 1, h => by rw [zyn, zyn, zm4 (fun i hi => h i (by omega)), h n (by omega)]
theorem yhc {f g : Nat → Nat} {n a : Nat} (h : ∀ i, i < n → i ≠ a → g i = f i) : (zc9 f n).set a (UInt64.ofNat (g a)) = zc9 g n := by
 refine List.ext_getElem? fun i => ?_
 by_cases hi : i < n
 ·
  have e1 : (zc9 f n)[i]? = some (UInt64.ofNat (f i)) := by unfold zc9; simp [hi]
  have e2 : (zc9 g n)[i]? = some (UInt64.ofNat (g i)) := by unfold zc9; simp [hi]
  rw [e2, List.getElem?_set]
  by_cases ha : a = i
  ·
   subst ha
   rw [if_pos rfl, if_pos (by rw [zhn]; exact hi)]
  ·
   rw [if_neg ha, e1, h i hi (fun e => ha e.symm)]
 ·
  rw [List.getElem?_eq_none (by rw [List.length_set, zhn]; omega), List.getElem?_eq_none (by rw [zhn]; omega)]
theorem z8u (hm : MayT l) {k a : Nat} (ha : zal l (lat v.l k).root = (a : Int)) (ks : List Nat) : a < l.length ∧ (zc9 (accF l v bal ks) l.length).set a (UInt64.ofNat (accF l v bal ks a + fn bal k)) = zc9 (accF l v bal (ks ++ [k])) l.length := by
 rcases zck hm (lat v.l k).root with ⟨i, hi, he, hr⟩ | ⟨he, _⟩
 ·
  rw [ha] at he
  have e : a = i := by omega
  subst e
  refine ⟨hi, ?_⟩
  have h1 : accF l v bal (ks ++ [k]) a = accF l v bal ks a + fn bal k := by rw [zoe, if_pos hr.symm]
  rw [← h1]
  refine yhc fun j hj hne => ?_
  rw [zoe, if_neg, Nat.add_zero]
  intro e2
  have h3 := zeh hm hj
  rw [← e2, ha] at h3
  omega
 ·
  rw [ha] at he; omega
theorem yem (hm : MayT l) {k : Nat} (ha : zal l (lat v.l k).root < 0) (ks : List Nat) : zc9 (accF l v bal ks) l.length = zc9 (accF l v bal (ks ++ [k])) l.length := by
 rcases zck hm (lat v.l k).root with ⟨i, hi, he, hr⟩ | ⟨_, hn⟩
 ·
  omega
 ·
  refine zm4 fun i hi => ?_
  rw [zoe, if_neg (fun e => hn i hi e.symm), Nat.add_zero]
theorem yen (n : Nat) : zc9 (accF l v bal []) n = List.replicate n 0 := by
 refine List.ext_getElem? fun i => ?_
 by_cases hi : i < n
 ·
  have e1 : (zc9 (accF l v bal []) n)[i]? = some (UInt64.ofNat 0) := by unfold zc9; simp [hi, yko]
  rw [e1]; simp [hi]
 ·
  rw [List.getElem?_eq_none (by rw [zhn]; omega), List.getElem?_eq_none (by simp; omega)]
end
theorem yh5 (b : List UInt64) (x : UInt64) (h : Nat) : zaq Enum (b.set h x) = (zaq Enum b).set h (num x) := by
 induction b generalizing h with
 | nil => rfl
 | cons y b ih => cases h with
  | zero => rfl
  | succ h => show num y :: zaq Enum (b.set h x) = _; rw [ih]; rfl
theorem z32 {w : World} {base g n cap : Nat} {b : List UInt64} (h : OwnE Enum w base (.slice (some ⟨g, 0, none⟩) n cap) b) (hn : b.length = n) (k : Nat) {x : Nat} (hx : x < 18446744073709551616) : OwnE Enum (w.setCell ⟨g, k, none⟩ (.int .u64 (x : Int))) base (.slice (some ⟨g, 0, none⟩) n cap) (b.set k (UInt64.ofNat x)) := by
 subst hn
 unfold OwnE at h ⊢
 rw [yh5, List.length_set, ybz hx]
 exact (World.ownsRow.stored h k (.int .u64 (x : Int))).1
theorem zq0 {w : World} {base g n cap : Nat} {b : List UInt64} (h : OwnE Enum w base (.slice (some ⟨g, 0, none⟩) n cap) b) (hn : b.length = n) (k : Nat) : w.frozen? ⟨g, k, none⟩ = false := by
 subst hn; exact World.ownsRow.frozenAt h k
theorem zgx {w : World} {base g n cap : Nat} {b : List UInt64} (h : OwnE Enum w base (.slice (some ⟨g, 0, none⟩) n cap) b) {k : Nat} (hk : k < b.length) : w.cell? ⟨g, k, none⟩ = some (.int .u64 (fn b k : Int)) := by
 obtain ⟨b1, o1, e, _, x⟩ := zgi (zat h) (by omega)
 injection e with e
 injection e with e1 e2
 subst e1 e2
 have := zd4 x hk
 rwa [Nat.zero_add] at this
theorem ycb {w : World} {base : Nat} {v : Value} {b : List UInt64} {n : Nat} (h : OwnE Enum w base v b) (hn : b.length = n) (h0 : 0 < n) : ∃ g cap, v = .slice (some ⟨g, 0, none⟩) n cap ∧ base ≤ g := by
 subst hn
 rcases h.2 with ⟨_, e⟩ | ⟨g, cap, cur, e, hb, _⟩
 ·
  omega
 ·
  exact ⟨g, cap, e, hb⟩
theorem yeh {w : World} {base : Nat} {v : Value} {n : Nat} (h : w.ownsRow base 27 1 v n (madeCells (num 0).cells (n * 1)).toList) : OwnE Enum w base v (List.replicate n 0) := by
 have e : (madeCells (num 0).cells (n * 1)).toList = zaq Enum (List.replicate n 0) := by
  refine List.ext_getElem? fun i => ?_
  have h1 : (zaq Enum (List.replicate n 0)).length = n := by rw [zbt, List.length_replicate]; show n * 1 = n; omega
  by_cases hi : i < n
  ·
   have h2 := zi4 Enum (List.replicate n 0) i 0 (by simpa using hi) (by decide)
   rw [show i * Enum.n + 0 = i by show i * 1 + 0 = i; omega] at h2
   rw [h2, List.getElem_replicate, Array.getElem?_toList]
   have h3 : i < (madeCells (num 0).cells (n * 1)).size := by rw [size_madeCells]; omega
   rw [Array.getElem?_eq_getElem h3]
   simp [madeCells, num, Value.cells, Enum]
   rw [Nat.mod_one]
   rfl
  ·
   rw [List.getElem?_eq_none (by rw [Array.length_toList, size_madeCells]; omega), List.getElem?_eq_none (by omega)]
 unfold OwnE
 rw [List.length_replicate, ← e]
 exact h
section
open Go.Shelf
open Go.RowKit Go.Shelf
attribute [local go_sem] Oper.semAt_some
@[local go_sem ↓ high] theorem yka {P : Program} (l : Option Nat) (ρ : Operand → Value) (o : Oper) (w : World) (h : ∀ c, o.op ≠ .defer c) : (Oper.semAt l ρ o).run P w = (execOp ρ o).run P w := by rw [Oper.semAt_eq l ρ o h]
structure Byw (s0 g bx n : Nat) (t : Tr) (A : List Nat → List UInt64) (w : World) (ks : List Nat) (W : World) : Prop where
 tree : W.heap[s0]? = some (.cells (tr t) 24 (0, 0))
 box : W.heap[bx]? = some (.cells #[.slice (some ⟨g, 0, none⟩) n n] 25 (0, 0))
 own : OwnE Enum W (s0 + 1) (.slice (some ⟨g, 0, none⟩) n n) (A ks)
 old : Below s0 w W
section
variable {s0 g bx n : Nat} {t : Tr} {A : List Nat → List UInt64} {w W W' : World} {ks : List Nat}
theorem Byw.keep (h : Byw s0 g bx n t A w ks W) (k : Below W.heap.size W W') (hs : s0 ≤ W.heap.size) : Byw s0 g bx n t A w ks W' := ⟨zab k h.tree, zab k h.box, zam k h.own, h.old.trans (k.mono hs)⟩
theorem Byw.put (h : Byw s0 g bx n t A w ks W) (hg : s0 + 1 ≤ g) (hb : g ≠ bx) (hg0 : s0 ≤ g) {k' : List Nat} {k x : Nat} (hn : (A ks).length = n) (hx : x < 18446744073709551616) (e : (A ks).set k (UInt64.ofNat x) = A k') : Byw s0 g bx n t A w k' (W.setCell ⟨g, k, none⟩ (.int .u64 (x : Int))) :=
 ⟨(Below.heap_setCell _ _ _ _ (show s0 ≠ g by omega)).trans h.tree, (Below.heap_setCell _ _ _ _ (show bx ≠ g from fun e => hb e.symm)).trans h.box, by rw [← e]; exact z32 h.own hn k hx, h.old.setCell (p := ⟨g, k, none⟩) hg0 _⟩
theorem Byw.to (h : Byw s0 g bx n t A w ks W) {k' : List Nat} (e : A ks = A k') : Byw s0 g bx n t A w k' W := ⟨h.tree, h.box, by rw [← e]; exact h.own, h.old⟩
theorem yk3 {B : Nat} {α : Type} (f : List α → List Nat) (h1 : s0 < B) (h2 : bx < B) (hw : w.heap.size = s0) : OwnFrom B (fun (pre : List α) W => Byw s0 g bx n t A w (f pre) W) := fun s X Y row h hg hr =>
 ⟨(hg.block s0 (Array.getElem?_eq_some_iff.1 h.tree).1 (fun e => by have := (hr s0 e.symm).1; omega)).trans h.tree,
  (hg.block bx (Array.getElem?_eq_some_iff.1 h.box).1 (fun e => by have := (hr bx e.symm).1; omega)).trans h.box,
  z1h (B := B) (fun _ : List α => Value.slice (some ⟨g, 0, none⟩) n n) (fun s => A (f s)) s X Y row h.own hg hr,
  h.old.grown hg (by have := h.old.size; omega) (fun k hk => by have := (hr k hk).1; omega)⟩
end
theorem ye2 (bv bb bl n cp b1 o1 c1 b2 o2 c2 b3 o3 c3 m : Nat) (p : Option Addr) (l : List Nd) (v o : Vt) (bal : List UInt64) (w : World) (h : SlE Ene w (.slice p n cp) l) (hm : MayT l) (hl : l.length = n) (hm8 : m ≤ 8) (hv : v.l.length = m) (ho : o.l.length = m) (hb : bal.length = m) (hbal : ∀ k, fn bal k ≤ 1099511627776) (q4 : b1 < w.heap.size) (q5 : b2 < w.heap.size) (q6 : b3 < w.heap.size)
  (t0 : w.heap[bv]? = some (.cells (vo ⟨⟨some ⟨b1, o1, none⟩, m, c1⟩, v.out⟩) 29 (0, 0))) (t1 : w.heap[bb]? = some (.cells (vo ⟨⟨some ⟨b2, o2, none⟩, m, c2⟩, o.out⟩) 29 (0, 0))) (t2 : w.heap[bl]? = some (.cells #[.slice (some ⟨b3, o3, none⟩) m c3] 25 (0, 0)))
  (x1 : w.rangeAt b1 o1 (zaq Elt v.l)) (x2 : w.rangeAt b2 o2 (zaq Elt o.l)) (x3 : w.rangeAt b3 o3 (zaq Enum bal)) :
  Calls Tryz.prog 150 #[.agg (tr ⟨⟨p, n, cp⟩⟩), .func (.func 176) #[] #[.pointer (some ⟨bv, 0, none⟩), .pointer (some ⟨bb, 0, none⟩), .pointer (some ⟨bl, 0, none⟩)]] w fun e w' => ∃ u, e = .returned u ∧ OwnE Enum w' w.heap.size u (zc9 (zv8 l v o bal) n) ∧ Below w.heap.size w w' := by
 have HD := Lib.hid (fun (W : World) (g : Below w.heap.size w W) => z6r 2 w.heap.size bv bb bl b1 o1 c1 b2 o2 c2 b3 o3 c3 m v o bal W g.size (by omega) hv ho hb (Array.getElem?_eq_some_iff.1 t0).1 (Array.getElem?_eq_some_iff.1 t1).1 (Array.getElem?_eq_some_iff.1 t2).1 q4 q5 q6 (zab g t0) (zab g t1) (zab g t2) (zg1 g q4 x1) (zg1 g q5 x2) (zg1 g q6 x3))
 have HF := Lib.hid (fun (r : Rt) (W : World) (g : Below w.heap.size w W) => zdh ⟨p, n, cp⟩ l r W (zad g h))
 have HMt := Lib.hid hm
 have HL := Lib.hid hl
 have HMb := Lib.hid hbal
 have HN : Hid (1 ≤ n ∧ n ≤ 12 ∧ m ≤ 8) := by show _ ∧ _ ∧ _; have := hm.le; have := hm.pos; omega
 have HA : Hid (zc9 (zv8 l v o bal) n = zc9 (accF l v bal (nwT v o m)) n) := by
  show _ = _
  refine zm4 fun i _ => ?_
  show selF _ _ _ = _
  rw [hb]
  exact (ykn i m).symm
 obtain ⟨A, hA⟩ : ∃ A : List Nat → List UInt64, A = fun ks => zc9 (accF l v bal ks) n := ⟨_, rfl⟩
 have HAd : Hid (∀ ks, A ks = zc9 (accF l v bal ks) n) := by show ∀ ks, _ = _; rw [hA]; exact fun _ => rfl
 have HAl : Hid (∀ ks, (A ks).length = n) := by show ∀ ks, _ = _; rw [hA]; exact fun _ => zhn _ _
 obtain ⟨W0, hW0⟩ : ∃ W0, W0 = w.alloc (.cells (tr ⟨⟨p, n, cp⟩⟩) 24) := ⟨_, rfl⟩
 have HB : Hid (Below w.heap.size w W0) := by rw [hW0]; exact below1
 have M0 : Hid (W0.heap[w.heap.size]? = some (.cells (tr ⟨⟨p, n, cp⟩⟩) 24 (0, 0))) := by rw [hW0]; exact heap_alloc_last w _
 have HZ0 : Hid (W0.heap.size = w.heap.size + 1) := by rw [hW0]; exact World.size_alloc _ _
 have HW := Lib.hid hW0
 obtain ⟨ii, hi, hz0, hz1, hz2⟩ := info_parts zu1
 have z0 := (zaw M0.out).1
 dsimp only at z0
 rw [za7] at z0
 have n0 : (0 : Int) ≤ (n : Int) := by omega
 clear hW0 h hm hl hm8 hv ho hb hbal q4 q5 q6 t0 t1 t2 x1 x2 x3 hA
 refine callsIn_wide.1 (callsIn_of_wp_marks (n := 3) Tryz.func150 rfl trivial (wpIn_wide.2 ?_))
 simp only [Tryz.ntmps150, List.size_toArray, List.length_cons, List.length_nil, Nat.reduceAdd, Nat.reduceSub, Array.replicate_succ, Array.replicate_zero, List.push_toArray, List.append_toArray, List.nil_append, List.cons_append]
 go_upto_region 1 with fail
 rw [← HW.out]
 go_wp2_with (at_make; refine wpList_make_full _ rfl _ _ 25 rfl W0.heap.size 27 ii _ 1 Tryz.underlying25 hi hz0 hz1 .i64 .i64 _ _ n rfl rfl rfl rfl (by rw [hz2]; have := HN.out; omega) (by unfold maxLen; have := HN.out; omega) (Nat.le_refl _) ?_; intro wz hown hgrow)
 have BZ : Hid (Below W0.heap.size W0 wz) := (Below.refl _ _).grown hgrow (Nat.le_refl _) (fun k hk => by cases hk)
 have OZ : Hid (OwnE Enum wz W0.heap.size (.slice (some ⟨W0.heap.size, 0, none⟩) n n) (A [])) := by
  have := yeh hown
  rw [← yen (l := l) (v := v) (bal := bal) n, ← HAd.out []] at this
  exact this
 obtain ⟨W2, hW2⟩ : ∃ W2, W2 = wz.alloc (.cells #[.slice (some ⟨W0.heap.size, 0, none⟩) n n] 25) := ⟨_, rfl⟩
 have hbz : Below wz.heap.size wz W2 := by rw [hW2]; exact below1
 have HZ2 : Hid (W2.heap.size = wz.heap.size + 1) := by rw [hW2]; exact World.size_alloc _ _
 have HSZ : Hid (w.heap.size < W0.heap.size ∧ W0.heap.size < wz.heap.size ∧ wz.heap.size < W2.heap.size) := by
  show _ ∧ _ ∧ _
  have h1 := (OZ.out.lt W0.heap.size rfl).2
  have := HZ0.out
  have := HZ2.out
  omega
 have BY : Hid (Byw w.heap.size W0.heap.size wz.heap.size n ⟨⟨p, n, cp⟩⟩ A w [] W2) :=
  ⟨zab (zac BZ.out hbz) M0.out, by rw [hW2]; exact heap_alloc_last wz _, by rw [← HZ0.out]; exact zam hbz OZ.out, zac HB.out (zac BZ.out hbz)⟩
 have HW2 := Lib.hid hW2
 clear hown hgrow hW2 hbz z0 n0 hi hz0 hz1 hz2 ii
 go_wp2_with fail
 rw [← HW2.out]
 refine (wpIn_wide (n := 3)).1 ?_
 have hD := HD.out W2 BY.out.old
 obtain ⟨g, hg⟩ : ∃ g, g = W0.heap.size := ⟨_, rfl⟩
 obtain ⟨bx, hbx⟩ : ∃ bx, bx = wz.heap.size := ⟨_, rfl⟩
 rw [← hg, ← hbx] at BY HSZ
 rw [← hg, ← hbx]
 clear HW2 BZ OZ HW HB M0 HZ2 HZ0 hg hbx HD
 have HBY := BY.out
 refine wpIn_rangeFunc_ownH (w0 := W2) rfl (by omega) (gf := 176) (lb := #[.pointer (some ⟨bv, 0, none⟩), .pointer (some ⟨bb, 0, none⟩), .pointer (some ⟨bl, 0, none⟩)]) rfl trivial zxb
  hD belowK_t (belowK_b (by have := HSZ.out; omega)) (Below.refl _ _) (fun _ => rfl)
  (fun pre W => Byw w.heap.size g bx n ⟨⟨p, n, cp⟩⟩ A w (pre.map Subtype.val) W) (fun _ _ _ => False)
  (yk3 (fun pre : List { x // x ∈ nwT v o m } => pre.map Subtype.val) (by have := HSZ.out; omega) (by have := HSZ.out; omega) rfl) (fun _ _ _ _ _ h _ _ => h)
  HBY (fun (x : { x // x ∈ nwT v o m }) (a' : Act) (W : World) => ∃ b6 : Nat, a' = { tmps := #[.agg (tr ⟨⟨p, n, cp⟩⟩), .func (.func 176) #[] #[.pointer (some ⟨bv, 0, none⟩), .pointer (some ⟨bb, 0, none⟩), .pointer (some ⟨bl, 0, none⟩)], .pointer (some ⟨w.heap.size, 0, none⟩), undef, .slice none 0 0, .pointer (some ⟨bx, 0, none⟩), .pointer (some ⟨b6, 0, none⟩), .int .u64 (fn bal x.1 : Int), undef, .pointer (some ⟨w.heap.size, 0, none⟩), .slice p n cp, .int .i64 (n : Int), .slice (some ⟨g, 0, none⟩) n n, .func (.func 176) #[] #[.pointer (some ⟨bv, 0, none⟩), .pointer (some ⟨bb, 0, none⟩), .pointer (some ⟨bl, 0, none⟩)], .agg (lt (lat v.l x.1)), .int .u64 (fn bal x.1 : Int), undef, undef, undef, undef, undef, undef, undef, undef, undef, undef, undef, undef, undef, undef], defers := [] } ∧ W.heap[b6]? = some (.cells (lt (lat v.l x.1)) 115 (0, 0)))
  (fun x a' s X Y row ⟨b6, e, h⟩ hg hr => ⟨b6, e, (hg.block b6 (Array.getElem?_eq_some_iff.1 h).1 (fun e => by obtain ⟨_, o, ho, hc⟩ := hr b6 e.symm; rw [h] at ho; cases ho; cases hc)).trans h⟩) ?assign ?body ?done ?stop
 case assign =>
  intro lo pre x W K hI hK
  have hs : w.heap.size ≤ W.heap.size := hI.old.size
  gi_wp2
  refine hK _ _ ((KeepsOthers.alloc _ _).from _) ((below1 (w := W)).mono hs) (hI.keep below1 hs) ⟨W.heap.size, rfl, heap_alloc_last W _⟩
 case body =>
  rintro lo pre x a' W hlo ⟨r, hr⟩ hI ⟨b6, rfl, h6⟩ hlen
  obtain ⟨k, hk⟩ := x
  dsimp only at h6
  have hs : w.heap.size ≤ W.heap.size := hI.old.size
  have y1 := (zaw hI.tree).2.1
  have y2 := (zgg h6).2.1
  have HFr := Lib.hid (HF.out (lat v.l k).root W hI.old)
  have HI := Lib.hid hI
  have HP := Lib.hid (show (pre ++ [(⟨k, hk⟩ : { x // x ∈ nwT v o m })]).map Subtype.val = pre.map Subtype.val ++ [k] by rw [List.map_append]; rfl)
  have HLn : Hid ((pre.map Subtype.val).length ≤ 8) := by
   show _ ≤ 8
   rw [List.length_map]
   have := ym8 v o m
   have := HN.out
   omega
  have hsm := yo3 (l := l) (v := v) HMb.out (pre.map Subtype.val)
  have hb1 := HMb.out k
  have HC := Lib.hid (show ∀ i, accF l v bal (pre.map Subtype.val) i ≤ 8796093022208 from fun i => by have h1 := hsm i; have h2 := HLn.out; have h3 := Nat.mul_le_mul_right 1099511627776 h2; omega)
  have HT : Hid ((∃ a : Nat, zal l (lat v.l k).root = (a : Int) ∧ a < n ∧ (A (pre.map Subtype.val)).set a (UInt64.ofNat (accF l v bal (pre.map Subtype.val) a + fn bal k)) = A (pre.map Subtype.val ++ [k]) ∧ fn (A (pre.map Subtype.val)) a = accF l v bal (pre.map Subtype.val) a) ∨ (zal l (lat v.l k).root < 0 ∧ A (pre.map Subtype.val) = A (pre.map Subtype.val ++ [k]))) := by
   show _ ∨ _
   rw [HAd.out, HAd.out, ← HL.out]
   by_cases h0 : 0 ≤ zal l (lat v.l k).root
   ·
    obtain ⟨a, ha⟩ : ∃ a : Nat, zal l (lat v.l k).root = (a : Int) := ⟨_, (Int.toNat_of_nonneg h0).symm⟩
    obtain ⟨h1, h2⟩ := z8u (bal := bal) (v := v) (k := k) HMt.out ha (pre.map Subtype.val)
    exact .inl ⟨a, ha, h1, h2, z0r h1 (by have := HC.out a; omega)⟩
   ·
    exact .inr ⟨by omega, yem HMt.out (by omega) _⟩
  have HB1 := Lib.hid hb1
  clear hsm hb1 hlen h6
  generalize lat v.l k = X at *
  obtain ⟨z, hz⟩ : ∃ z, z = zal l X.root := ⟨_, rfl⟩
  rw [← hz] at HFr HT
  clear hz
  gi_wp2
  refine ⟨trivial, (callsIn_wide.2 HFr.out).mono ?_⟩
  rintro e W1 ⟨rfl, g1⟩
  have hI1 := HI.out.keep g1 hs
  have HI1 := Lib.hid hI1
  have HG1 := Lib.hid g1
  have HS1 := Lib.hid hs
  have e1 := (zaj hI1.box).1
  clear y1 y2 g1 hI hI1 hr hs
  rcases HT.out with ⟨a, rfl, han, hset, hfn⟩ | ⟨hz, hset⟩
  ·
   have c0 : decide ((0 : Int) ≤ (a : Int)) = true := decide_eq_true (by omega)
   have i0 : (0 : Int) ≤ (a : Int) := by omega
   have i1 : (a : Int) < (n : Int) := by omega
   have e2 := zgx HI1.out.own (k := a) (by rw [HAl.out]; exact han)
   have e3 := zq0 HI1.out.own (HAl.out _) a
   rw [hfn] at e2
   obtain ⟨s, hs⟩ : ∃ s, s = accF l v bal (pre.map Subtype.val) a := ⟨_, rfl⟩
   obtain ⟨y, hy⟩ : ∃ y, y = fn bal k := ⟨_, rfl⟩
   have h1 := HC.out a
   have h2 := HB1.out
   rw [← hs] at e2 h1
   rw [← hs, ← hy] at hset
   rw [← hy] at h2 ⊢
   have HU : Hid (IntKind.u64.wrap ((s : Int) + (y : Int)) = ((s + y : Nat) : Int)) := by show _ = _; rw [IntKind.wrap_u64]; omega
   have HLt : Hid (s + y < 18446744073709551616) := by show _ < _; omega
   have HSet := Lib.hid hset
   clear hs hy h1 h2 hset hfn HT HC HB1
   gi_wp2
   rw [HU.out]
   have gk : KeepsFrom W2.heap.size W W1 := KeepsFrom.of_grownBy (zbl HG1.out) (fun j e => by cases e)
   refine ⟨gk.trans ((KeepsOthers.setCell _ _ _).from _), (HG1.out.mono HS1.out).setCell (p := ⟨g, a, none⟩) (by show _ ≤ g; have := HSZ.out; omega) _, ?_⟩
   show Byw w.heap.size g bx n ⟨⟨p, n, cp⟩⟩ A w ((pre ++ [(⟨k, hk⟩ : { x // x ∈ nwT v o m })]).map Subtype.val) _
   rw [HP.out]
   exact HI1.out.put (by have := HSZ.out; omega) (by have := HSZ.out; omega) (by have := HSZ.out; omega) (HAl.out _) HLt.out HSet.out
  ·
   have c0 : decide ((0 : Int) ≤ z) = false := decide_eq_false (by omega)
   have HSet := Lib.hid hset
   clear hz hset HT HC HB1
   gi_wp2
   have gk : KeepsFrom W2.heap.size W W1 := KeepsFrom.of_grownBy (zbl HG1.out) (fun j e => by cases e)
   refine ⟨gk, HG1.out.mono HS1.out, ?_⟩
   show Byw w.heap.size g bx n ⟨⟨p, n, cp⟩⟩ A w ((pre ++ [(⟨k, hk⟩ : { x // x ∈ nwT v o m })]).map Subtype.val) _
   rw [HP.out]
   exact HI1.out.to HSet.out
 case done =>
  intro D ys W hD hys hI hK
  have e1 := (zaj hI.box).1
  have HI := Lib.hid hI
  have HKD := Lib.hid hK
  have HDD : Hid (w.heap.size ≤ D) := by show _ ≤ _; have := HSZ.out; omega
  have HR : Hid (zc9 (zv8 l v o bal) n = A (ys.map Subtype.val)) := by show _ = _; rw [HA.out, hys, HAd.out]
  clear hI hK hys hD
  go_wp2_with fail
  refine zhj (v := .slice (some ⟨g, 0, none⟩) n n) HKD.out ⟨by simp [results, Tryz.results150, go_sem], _, rfl, ?_, zdc HKD.out HI.out.old HDD.out⟩
  rw [HR.out]
  exact zbf (z1h (B := 0) (fun _ : List Unit => Value.slice (some ⟨g, 0, none⟩) n n) (fun _ => A (ys.map Subtype.val)) [] _ _ _ HI.out.own (grownBy_putObj' W D _) (fun r e => by cases e; exact ⟨Nat.zero_le _, _, HKD.out, rfl⟩)) (Nat.le_succ _)
 case stop =>
  intro D c pre W _ _ h
  exact h.elim
theorem zk3 : ∀ args w, (callFunc 150 args).run Tryz.prog w = .ok (.enter 150 args) w := zbe Tryz.func150 (by kernel_rfl) (by kernel_rfl)
end
end Go.Proofs.YtkalofboioffiaaGreat
