/-
  Package tree: Find, walked.
  Package delta: byNode, over the votes that news hands on.
-/
import Derived.Test.YtccihllcohnnnaaQ31
import Derived.Test.YtccihllcohnnnaaQ29
import Derived.Test.YtccihllcohnnnaaQ30
import Derived.Test.YtccihllcohnnnaaQ28
import Derived.Deep.Cut
namespace Go.Proofs.Ytccihllcohnnnaa
open Go.RowKit Go.Maps
set_option maxRecDepth 100000

theorem zero_intE (w : World) : (zeroValue 3).run Try.prog w = .ok (.int .i64 0) w := by kernel_rfl
/-- 'v, ok := m[k]' where what is there is known. -/
theorem look_is {W : World} {b n : Nat} {D : DataW Unit} (h : W.ownsMap Try.prog 39 (plainElem Try.prog 3) b n D) {r : Rt} {c : Int} (hc : D.atKey (rk r) (iL 0) = .lit (.int .i64 c)) :
    (Instr.lookup 69 (.map (some b)) (.agg (rc r)) true).run Try.prog W = .ok (.tuple #[.int .i64 c, .bool (Maps.has D (rk r))]) W := by
  obtain ⟨v, ps, hrun, hv⟩ := h.look_ok keyed_root Try.underlying69 (zero_intE W) (plainElem_int Try.underlying3 (by decide)) (key_root r)
  obtain ⟨a, rfl, hz, _⟩ := plainElem_int_inv Try.underlying3 hv
  have e : D.atKey (rk r) (.lit (.int .i64 0)) = .lit (.int .i64 a) := congrArg Prod.fst hz
  have hc' : D.atKey (rk r) (.lit (.int .i64 0)) = .lit (.int .i64 c) := hc
  rw [e] at hc'
  injection hc' with h1
  injection h1 with _ h2
  rw [← h2]
  exact hrun
/-- What a place's root leads to. -/
def putR (l : List Nd) (r : Rt) : Int := if 0 ≤ findT l r then findT l r else 0
theorem plD_look {l : List Nd} (h : MayT l) (r : Rt) : (plD l l.length).atKey (rk r) (iL 0) = .lit (.int .i64 (putR l r)) ∧ Maps.has (plD l l.length) (rk r) = decide (0 ≤ findT l r) := by
  obtain ⟨h1, h2⟩ := plD_find h r
  refine ⟨?_, h1⟩
  unfold putR
  by_cases hf : 0 ≤ findT l r
  · rw [if_pos hf]; exact h2 hf
  · rw [if_neg hf]
    exact atKey_of_not_has (by rw [h1]; exact decide_eq_false hf) _

set_option maxRecDepth 100000 in
set_option maxHeartbeats 4000000 in
theorem treeFind (s : SlV) (l : List Nd) (r : Rt) (w : World) (h : SlE Ene w (sv s) l) :
    Calls Try.prog 18 #[.agg (tr ⟨s⟩), .agg (rc r)] w fun e w' => e = .returned (.int .i64 (findT l r)) ∧ Below w.heap.size w w' := by
  have HM := Lib.hid (fun W (g : Below w.heap.size w W) => treeMay s l W (slE_keep g h))
  have HS := Lib.hid h
  obtain ⟨a, ha⟩ : ∃ a, a = decide (MayT l) := ⟨_, rfl⟩
  rw [← ha] at HM
  have HA := Lib.hid ha
  obtain ⟨W0, hW0⟩ : ∃ W0, W0 = (w.alloc (.cells (tr ⟨s⟩) 24)).alloc (.cells (rc r) 39) := ⟨_, rfl⟩
  obtain ⟨hB, h0, h1, hz⟩ := heap2 w _ _ _ _ W0 hW0
  have HB := Lib.hid hB
  have H0 := Lib.hid h0
  have H1 := Lib.hid h1
  have HW := Lib.hid hW0
  obtain ⟨x, hx⟩ : ∃ x, x = findT l r := ⟨_, rfl⟩
  rw [← hx]
  have HX := Lib.hid hx
  clear h hW0 hB h0 h1 hz ha hx
  go_enter Try.func18, Try.ntmps18
  go_wp2_with fail
  rw [← HW.out]
  refine (HM.out W0 HB.out).mono ?_
  rintro e w1 ⟨rfl, g1⟩
  have G1 := Lib.hid (belowT HB.out g1)
  have N0 := Lib.hid (blk_keep g1 H0.out)
  have N1 := Lib.hid (blk_keep g1 H1.out)
  clear g1
  cases a
  · have hX : Hid (x = -1) := by show x = -1; rw [HX.out]; exact find_not (fun hm => by have := HA.out; rw [decide_eq_true hm] at this; cases this) r
    go_wp2_with fail
    go_ret
    exact ⟨by rw [hX.out]; first | done | rfl, G1.out⟩
  · have HMl := Lib.hid (of_decide_eq_true HA.out.symm)
    have hx := HX.out
    obtain ⟨c, hc⟩ : ∃ c, c = putR l r := ⟨_, rfl⟩
    obtain ⟨q, hq⟩ : ∃ q, q = decide (0 ≤ x) := ⟨_, rfl⟩
    have hlk := plD_look HMl.out r
    rw [← hc, ← hx, ← hq] at hlk
    have HLK := Lib.hid hlk
    have HXF : Hid (q = false → -1 = x) := fun e => by
      have := find_ge (l := l) r
      rw [e] at hq
      have := of_decide_eq_false hq.symm
      omega
    have HXT : Hid (q = true → c = x) := fun e => by
      rw [e] at hq
      have := of_decide_eq_true hq.symm
      rw [hc]; unfold putR
      rw [if_pos (by omega)]; exact hx.symm
    clear hx hc hq hlk
    go_wp2_with fail
    have La := fun q : Wd w1.drew => wd_tr N0.out q
    have Lb := fun q : Wd w1.drew => wd_ld (ldA_block N1.out (rc_size r)) (by decide) q
    refine wp_region_lex [1] (by kernel_rfl) (by kernel_rfl) (by kernel_rfl) ?_
    repeat (refine wpXL_quiet rfl rfl _ cls_begin ?_; (first | go_big_quiet_step (fail) | quiet_step (fail)); refine wpQuiet_nil ?_)
    refine wpXL_call rfl rfl rfl enters_places #[.agg (tr ⟨s⟩)] rfl ?_
    refine (treePlaces s l _ (slE_keep (belowT G1.out (belowD (Below.refl _ _) 1)) HS.out) (by have := HMl.out.le; omega)).mono ?_
    rintro e u ⟨b, rfl, ho, g⟩
    refine ⟨_, rfl, g, ?_⟩
    simp only [Act.put, List.setIfInBounds_toArray, List.set_cons_zero, List.set_cons_succ]
    have Lc := fun q : Wd u => look_is (ownsMap_keep q.h ho) HLK.out.1
    rw [HLK.out.2] at Lc
    have G := Lib.hid (belowT (belowT G1.out (belowD (Below.refl _ _) 1)) g)
    clear g ho
    refine wpXL_quiet rfl rfl _ cls_begin ?_
    (first | go_big_quiet_step (fail) | quiet_step (fail))
    refine wpQuiet_nil ?_
    refine wpXL_quiet rfl rfl u (cls_at 1 u (by simp) (by kernel_rfl)) ?_
    (first | go_big_quiet_step (fail) | quiet_step (fail))
    refine wpQuiet_nil ?_
    repeat (refine wpXL_quiet rfl rfl _ cls_begin ?_; (first | go_big_quiet_step (fail) | quiet_step (fail)); refine wpQuiet_nil ?_)
    refine wpXL_nil ?_
    cases q
    · have hX : Hid (-1 = x) := HXF.out rfl
      go_wp2_with fail
      go_ret
      exact ⟨by rw [← hX.out]; first | done | rfl, G.out⟩
    · have hX : Hid (c = x) := HXT.out rfl
      go_wp2_with fail
      go_ret
      exact ⟨by rw [← hX.out]; first | done | rfl, G.out⟩
theorem enters_find06 : ∀ args w, (callFunc 18 args).run Try.prog w = .ok (.enter 18 args) w := entersE Try.func18 (by kernel_rfl) (by kernel_rfl)
end Go.Proofs.Ytccihllcohnnnaa
namespace Go.Proofs.Ytccihllcohnnnaa
open Go.RowKit Go.Shelf
set_option maxRecDepth 100000

attribute [local go_sem] Oper.semAt_some
@[local go_sem ↓] theorem semAt_run14b {P : Program} (l : Option Nat) (ρ : Operand → Value) (o : Oper) (w : World) (h : ∀ c, o.op ≠ .defer c) : (Oper.semAt l ρ o).run P w = (execOp ρ o).run P w := by rw [Oper.semAt_eq l ρ o h]

/-- Between two rounds: the tree in its variable, the row's variable, the row. -/
structure Byw (s0 g bx n : Nat) (t : Tr) (A : List Nat → List UInt64) (w : World) (ks : List Nat) (W : World) : Prop where
  tree : W.heap[s0]? = some (.cells (tr t) 24 (0, 0))
  box : W.heap[bx]? = some (.cells #[.slice (some ⟨g, 0, none⟩) n n] 29 (0, 0))
  own : OwnE Enum W (s0 + 1) (.slice (some ⟨g, 0, none⟩) n n) (A ks)
  old : Below s0 w W
section
variable {s0 g bx n : Nat} {t : Tr} {A : List Nat → List UInt64} {w W W' : World} {ks : List Nat}
theorem Byw.keep (h : Byw s0 g bx n t A w ks W) (k : Below W.heap.size W W') (hs : s0 ≤ W.heap.size) : Byw s0 g bx n t A w ks W' := ⟨blk_keep k h.tree, blk_keep k h.box, ownE_keep k h.own, h.old.trans (k.mono hs)⟩
theorem Byw.put (h : Byw s0 g bx n t A w ks W) (hg : s0 + 1 ≤ g) (hb : g ≠ bx) (hg0 : s0 ≤ g) {k' : List Nat} {k x : Nat} (hn : (A ks).length = n) (hx : x < 18446744073709551616) (e : (A ks).set k (UInt64.ofNat x) = A k') : Byw s0 g bx n t A w k' (W.setCell ⟨g, k, none⟩ (.int .u64 (x : Int))) :=
  ⟨(Below.heap_setCell _ _ _ _ (show s0 ≠ g by omega)).trans h.tree, (Below.heap_setCell _ _ _ _ (show bx ≠ g from fun e => hb e.symm)).trans h.box, by rw [← e]; exact ownN_put h.own hn k hx, h.old.setCell (p := ⟨g, k, none⟩) hg0 _⟩
theorem Byw.to (h : Byw s0 g bx n t A w ks W) {k' : List Nat} (e : A ks = A k') : Byw s0 g bx n t A w k' W := ⟨h.tree, h.box, by rw [← e]; exact h.own, h.old⟩
theorem byw_own {B : Nat} {α : Type} (f : List α → List Nat) (h1 : s0 < B) (h2 : bx < B) (hw : w.heap.size = s0) : OwnFrom B (fun (pre : List α) W => Byw s0 g bx n t A w (f pre) W) := fun s X Y row h hg hr =>
  ⟨(hg.block s0 (Array.getElem?_eq_some_iff.1 h.tree).1 (fun e => by have := (hr s0 e.symm).1; omega)).trans h.tree,
   (hg.block bx (Array.getElem?_eq_some_iff.1 h.box).1 (fun e => by have := (hr bx e.symm).1; omega)).trans h.box,
   own_own (B := B) (fun _ : List α => Value.slice (some ⟨g, 0, none⟩) n n) (fun s => A (f s)) s X Y row h.own hg hr,
   h.old.grown hg (by have := h.old.size; omega) (fun k hk => by have := (hr k hk).1; omega)⟩
end

set_option maxRecDepth 100000 in
set_option maxHeartbeats 8000000 in
theorem byNode_n (bv bb bl n cp b1 o1 c1 b2 o2 c2 b3 o3 c3 m : Nat) (p : Option Addr) (l : List Nd) (v o : Vt) (bal : List UInt64) (w : World) (h : SlE Ene w (.slice p n cp) l) (hm : MayT l) (hl : l.length = n) (hm8 : m ≤ 8) (hv : v.l.length = m) (ho : o.l.length = m) (hb : bal.length = m) (hbal : ∀ k, fn bal k ≤ 1099511627776) (q4 : b1 < w.heap.size) (q5 : b2 < w.heap.size) (q6 : b3 < w.heap.size)
    (t0 : w.heap[bv]? = some (.cells (vo ⟨⟨some ⟨b1, o1, none⟩, m, c1⟩, v.out⟩) 28 (0, 0))) (t1 : w.heap[bb]? = some (.cells (vo ⟨⟨some ⟨b2, o2, none⟩, m, c2⟩, o.out⟩) 28 (0, 0))) (t2 : w.heap[bl]? = some (.cells #[.slice (some ⟨b3, o3, none⟩) m c3] 29 (0, 0)))
    (x1 : w.rangeAt b1 o1 (cellsE Elt v.l)) (x2 : w.rangeAt b2 o2 (cellsE Elt o.l)) (x3 : w.rangeAt b3 o3 (cellsE Enum bal)) :
    Calls Try.prog 29 #[.agg (tr ⟨⟨p, n, cp⟩⟩), .func (.func 50) #[] #[.pointer (some ⟨bv, 0, none⟩), .pointer (some ⟨bb, 0, none⟩), .pointer (some ⟨bl, 0, none⟩)]] w fun e w' => ∃ u, e = .returned u ∧ OwnE Enum w' w.heap.size u (numsT (someF l v o bal) n) ∧ Below w.heap.size w w' := by
  have HD := Lib.hid (fun (W : World) (g : Below w.heap.size w W) => news_stops 2 w.heap.size bv bb bl b1 o1 c1 b2 o2 c2 b3 o3 c3 m v o bal W g.size (by omega) hv ho hb (Array.getElem?_eq_some_iff.1 t0).1 (Array.getElem?_eq_some_iff.1 t1).1 (Array.getElem?_eq_some_iff.1 t2).1 q4 q5 q6 (blk_keep g t0) (blk_keep g t1) (blk_keep g t2) (range_old g q4 x1) (range_old g q5 x2) (range_old g q6 x3))
  have HF := Lib.hid (fun (r : Rt) (W : World) (g : Below w.heap.size w W) => treeFind ⟨p, n, cp⟩ l r W (slE_keep g h))
  have HMt := Lib.hid hm
  have HL := Lib.hid hl
  have HMb := Lib.hid hbal
  have HN : Hid (1 ≤ n ∧ n ≤ 12 ∧ m ≤ 8) := by show _ ∧ _ ∧ _; have := hm.le; have := hm.pos; omega
  have HA : Hid (numsT (someF l v o bal) n = numsT (accF l v bal (nwT v o m)) n) := by
    show _ = _
    refine nums_congr fun i _ => ?_
    show selF _ _ _ = _
    rw [hb]
    exact (acc_new i m).symm
  obtain ⟨A, hA⟩ : ∃ A : List Nat → List UInt64, A = fun ks => numsT (accF l v bal ks) n := ⟨_, rfl⟩
  have HAd : Hid (∀ ks, A ks = numsT (accF l v bal ks) n) := by show ∀ ks, _ = _; rw [hA]; exact fun _ => rfl
  have HAl : Hid (∀ ks, (A ks).length = n) := by show ∀ ks, _ = _; rw [hA]; exact fun _ => nums_len _ _
  obtain ⟨W0, hW0⟩ : ∃ W0, W0 = w.alloc (.cells (tr ⟨⟨p, n, cp⟩⟩) 24) := ⟨_, rfl⟩
  have HB : Hid (Below w.heap.size w W0) := by rw [hW0]; exact below1
  have M0 : Hid (W0.heap[w.heap.size]? = some (.cells (tr ⟨⟨p, n, cp⟩⟩) 24 (0, 0))) := by rw [hW0]; exact heap_alloc_last w _
  have HZ0 : Hid (W0.heap.size = w.heap.size + 1) := by rw [hW0]; exact World.size_alloc _ _
  have HW := Lib.hid hW0
  obtain ⟨ii, hi, hz0, hz1, hz2⟩ := info_parts info_num
  have z0 := (tr_cells M0.out).1
  dsimp only at z0
  rw [sv_mk] at z0
  have n0 : (0 : Int) ≤ (n : Int) := by omega
  clear hW0 h hm hl hm8 hv ho hb hbal q4 q5 q6 t0 t1 t2 x1 x2 x3 hA
  refine callsIn_wide.1 (callsIn_of_wp_marks (n := 3) Try.func29 rfl trivial (wpIn_wide.2 ?_))
  simp only [Try.ntmps29, List.size_toArray, List.length_cons, List.length_nil, Nat.reduceAdd, Nat.reduceSub, Array.replicate_succ, Array.replicate_zero, List.push_toArray, List.append_toArray, List.nil_append, List.cons_append]
  go_upto_region 1 with fail
  rw [← HW.out]
  go_wp2_with (at_make; refine wpList_make_full _ rfl _ _ 29 rfl W0.heap.size 26 ii _ 1 Try.underlying29 hi hz0 hz1 .i64 .i64 _ _ n rfl rfl rfl rfl (by rw [hz2]; have := HN.out; omega) (by unfold maxLen; have := HN.out; omega) (Nat.le_refl _) ?_; intro wz hown hgrow)
  have BZ : Hid (Below W0.heap.size W0 wz) := (Below.refl _ _).grown hgrow (Nat.le_refl _) (fun k hk => by cases hk)
  have OZ : Hid (OwnE Enum wz W0.heap.size (.slice (some ⟨W0.heap.size, 0, none⟩) n n) (A [])) := by
    have := zeros_own hown
    rw [← acc_zero (l := l) (v := v) (bal := bal) n, ← HAd.out []] at this
    exact this
  obtain ⟨W2, hW2⟩ : ∃ W2, W2 = wz.alloc (.cells #[.slice (some ⟨W0.heap.size, 0, none⟩) n n] 29) := ⟨_, rfl⟩
  have hbz : Below wz.heap.size wz W2 := by rw [hW2]; exact below1
  have HZ2 : Hid (W2.heap.size = wz.heap.size + 1) := by rw [hW2]; exact World.size_alloc _ _
  have HSZ : Hid (w.heap.size < W0.heap.size ∧ W0.heap.size < wz.heap.size ∧ wz.heap.size < W2.heap.size) := by
    show _ ∧ _ ∧ _
    have h1 := (OZ.out.lt W0.heap.size rfl).2
    have := HZ0.out
    have := HZ2.out
    omega
  have BY : Hid (Byw w.heap.size W0.heap.size wz.heap.size n ⟨⟨p, n, cp⟩⟩ A w [] W2) :=
    ⟨blk_keep (belowT BZ.out hbz) M0.out, by rw [hW2]; exact heap_alloc_last wz _, by rw [← HZ0.out]; exact ownE_keep hbz OZ.out, belowT HB.out (belowT BZ.out hbz)⟩
  have HW2 := Lib.hid hW2
  clear hown hgrow hW2 hbz z0 n0 hi hz0 hz1 hz2 ii
  go_wp2_with fail
  rw [← HW2.out]
  refine (wpIn_wide (n := 3)).1 ?_
  have hD := HD.out W2 BY.out.old
  obtain ⟨g, hg⟩ : ∃ g, g = W0.heap.size := ⟨_, rfl⟩
  obtain ⟨bx, hbx⟩ : ∃ bx, bx = wz.heap.size := ⟨_, rfl⟩
  rw [← hg, ← hbx] at BY HSZ
  rw [← hg, ← hbx]
  clear HW2 BZ OZ HW HB M0 HZ2 HZ0 hg hbx HD
  have HBY := BY.out
  refine wpIn_rangeFunc_ownH (w0 := W2) rfl (by omega) (gf := 50) (lb := #[.pointer (some ⟨bv, 0, none⟩), .pointer (some ⟨bb, 0, none⟩), .pointer (some ⟨bl, 0, none⟩)]) rfl trivial enters_news1
    hD belowK_t (belowK_b (by have := HSZ.out; omega)) (Below.refl _ _) (fun _ => rfl)
    (fun pre W => Byw w.heap.size g bx n ⟨⟨p, n, cp⟩⟩ A w (pre.map Subtype.val) W) (fun _ _ _ => False)
    (byw_own (fun pre : List { x // x ∈ nwT v o m } => pre.map Subtype.val) (by have := HSZ.out; omega) (by have := HSZ.out; omega) rfl) (fun _ _ _ _ _ h _ _ => h)
    HBY (fun (x : { x // x ∈ nwT v o m }) (a' : Act) (W : World) => ∃ b6 : Nat, a' = { tmps := #[.agg (tr ⟨⟨p, n, cp⟩⟩), .func (.func 50) #[] #[.pointer (some ⟨bv, 0, none⟩), .pointer (some ⟨bb, 0, none⟩), .pointer (some ⟨bl, 0, none⟩)], .pointer (some ⟨w.heap.size, 0, none⟩), undef, .slice none 0 0, .pointer (some ⟨bx, 0, none⟩), .pointer (some ⟨b6, 0, none⟩), .int .u64 (fn bal x.1 : Int), undef, .pointer (some ⟨w.heap.size, 0, none⟩), .slice p n cp, .int .i64 (n : Int), .slice (some ⟨g, 0, none⟩) n n, .func (.func 50) #[] #[.pointer (some ⟨bv, 0, none⟩), .pointer (some ⟨bb, 0, none⟩), .pointer (some ⟨bl, 0, none⟩)], .agg (lt (lat v.l x.1)), .int .u64 (fn bal x.1 : Int), undef, undef, undef, undef, undef, undef, undef, undef, undef, undef, undef, undef, undef, undef], defers := [] } ∧ W.heap[b6]? = some (.cells (lt (lat v.l x.1)) 41 (0, 0)))
    (fun x a' s X Y row ⟨b6, e, h⟩ hg hr => ⟨b6, e, (hg.block b6 (Array.getElem?_eq_some_iff.1 h).1 (fun e => by obtain ⟨_, o, ho, hc⟩ := hr b6 e.symm; rw [h] at ho; cases ho; cases hc)).trans h⟩) ?assign ?body ?done ?stop
  case assign =>
    intro lo pre x W K hI hK
    have hs : w.heap.size ≤ W.heap.size := hI.old.size
    gi_wp2
    refine hK _ _ ((KeepsOthers.alloc _ _).from _) ((below1 (w := W)).mono hs) (hI.keep below1 hs) ⟨W.heap.size, rfl, heap_alloc_last W _⟩
  case body =>
    rintro lo pre x a' W hlo ⟨r, hr⟩ hI ⟨b6, rfl, h6⟩ hlen
    obtain ⟨k, hk⟩ := x
    dsimp only at h6
    have hs : w.heap.size ≤ W.heap.size := hI.old.size
    have y1 := (tr_cells hI.tree).2.1
    have y2 := (lt_cells h6).2.1
    have HFr := Lib.hid (HF.out (lat v.l k).root W hI.old)
    have HI := Lib.hid hI
    have HP := Lib.hid (show (pre ++ [(⟨k, hk⟩ : { x // x ∈ nwT v o m })]).map Subtype.val = pre.map Subtype.val ++ [k] by rw [List.map_append]; rfl)
    have HLn : Hid ((pre.map Subtype.val).length ≤ 8) := by
      show _ ≤ 8
      rw [List.length_map]
      have := nwT_len v o m
      have := HN.out
      omega
    have hsm := acc_le (l := l) (v := v) HMb.out (pre.map Subtype.val)
    have hb1 := HMb.out k
    have HC := Lib.hid (show ∀ i, accF l v bal (pre.map Subtype.val) i ≤ 8796093022208 from fun i => by have h1 := hsm i; have h2 := HLn.out; have h3 := Nat.mul_le_mul_right 1099511627776 h2; omega)
    have HT : Hid ((∃ a : Nat, findT l (lat v.l k).root = (a : Int) ∧ a < n ∧ (A (pre.map Subtype.val)).set a (UInt64.ofNat (accF l v bal (pre.map Subtype.val) a + fn bal k)) = A (pre.map Subtype.val ++ [k]) ∧ fn (A (pre.map Subtype.val)) a = accF l v bal (pre.map Subtype.val) a) ∨ (findT l (lat v.l k).root < 0 ∧ A (pre.map Subtype.val) = A (pre.map Subtype.val ++ [k]))) := by
      show _ ∨ _
      rw [HAd.out, HAd.out, ← HL.out]
      by_cases h0 : 0 ≤ findT l (lat v.l k).root
      · obtain ⟨a, ha⟩ : ∃ a : Nat, findT l (lat v.l k).root = (a : Int) := ⟨_, (Int.toNat_of_nonneg h0).symm⟩
        obtain ⟨h1, h2⟩ := acc_found (bal := bal) (v := v) (k := k) HMt.out ha (pre.map Subtype.val)
        exact .inl ⟨a, ha, h1, h2, fn_nums h1 (by have := HC.out a; omega)⟩
      · exact .inr ⟨by omega, acc_lost HMt.out (by omega) _⟩
    have HB1 := Lib.hid hb1
    clear hsm hb1 hlen h6
    generalize lat v.l k = X at *
    obtain ⟨z, hz⟩ : ∃ z, z = findT l X.root := ⟨_, rfl⟩
    rw [← hz] at HFr HT
    clear hz
    gi_wp2
    refine ⟨trivial, (callsIn_wide.2 HFr.out).mono ?_⟩
    rintro e W1 ⟨rfl, g1⟩
    have hI1 := HI.out.keep g1 hs
    have HI1 := Lib.hid hI1
    have HG1 := Lib.hid g1
    have HS1 := Lib.hid hs
    have e1 := (cell_of_box hI1.box).1
    clear y1 y2 g1 hI hI1 hr hs
    rcases HT.out with ⟨a, rfl, han, hset, hfn⟩ | ⟨hz, hset⟩
    · have c0 : decide ((0 : Int) ≤ (a : Int)) = true := decide_eq_true (by omega)
      have i0 : (0 : Int) ≤ (a : Int) := by omega
      have i1 : (a : Int) < (n : Int) := by omega
      have e2 := ownN_cell HI1.out.own (k := a) (by rw [HAl.out]; exact han)
      have e3 := ownN_frozen HI1.out.own (HAl.out _) a
      rw [hfn] at e2
      obtain ⟨s, hs⟩ : ∃ s, s = accF l v bal (pre.map Subtype.val) a := ⟨_, rfl⟩
      obtain ⟨y, hy⟩ : ∃ y, y = fn bal k := ⟨_, rfl⟩
      have h1 := HC.out a
      have h2 := HB1.out
      rw [← hs] at e2 h1
      rw [← hs, ← hy] at hset
      rw [← hy] at h2 ⊢
      have HU : Hid (IntKind.u64.wrap ((s : Int) + (y : Int)) = ((s + y : Nat) : Int)) := by show _ = _; rw [IntKind.wrap_u64]; omega
      have HLt : Hid (s + y < 18446744073709551616) := by show _ < _; omega
      have HSet := Lib.hid hset
      clear hs hy h1 h2 hset hfn HT HC HB1
      gi_wp2
      rw [HU.out]
      have gk : KeepsFrom W2.heap.size W W1 := KeepsFrom.of_grownBy (grown_of_below HG1.out) (fun j e => by cases e)
      refine ⟨gk.trans ((KeepsOthers.setCell _ _ _).from _), (HG1.out.mono HS1.out).setCell (p := ⟨g, a, none⟩) (by show _ ≤ g; have := HSZ.out; omega) _, ?_⟩
      show Byw w.heap.size g bx n ⟨⟨p, n, cp⟩⟩ A w ((pre ++ [(⟨k, hk⟩ : { x // x ∈ nwT v o m })]).map Subtype.val) _
      rw [HP.out]
      exact HI1.out.put (by have := HSZ.out; omega) (by have := HSZ.out; omega) (by have := HSZ.out; omega) (HAl.out _) HLt.out HSet.out
    · have c0 : decide ((0 : Int) ≤ z) = false := decide_eq_false (by omega)
      have HSet := Lib.hid hset
      clear hz hset HT HC HB1
      gi_wp2
      have gk : KeepsFrom W2.heap.size W W1 := KeepsFrom.of_grownBy (grown_of_below HG1.out) (fun j e => by cases e)
      refine ⟨gk, HG1.out.mono HS1.out, ?_⟩
      show Byw w.heap.size g bx n ⟨⟨p, n, cp⟩⟩ A w ((pre ++ [(⟨k, hk⟩ : { x // x ∈ nwT v o m })]).map Subtype.val) _
      rw [HP.out]
      exact HI1.out.to HSet.out
  case done =>
    intro D ys W hD hys hI hK
    have e1 := (cell_of_box hI.box).1
    have HI := Lib.hid hI
    have HKD := Lib.hid hK
    have HDD : Hid (w.heap.size ≤ D) := by show _ ≤ _; have := HSZ.out; omega
    have HR : Hid (numsT (someF l v o bal) n = A (ys.map Subtype.val)) := by show _ = _; rw [HA.out, hys, HAd.out]
    clear hI hK hys hD
    go_wp2_with fail
    refine leave_M (v := .slice (some ⟨g, 0, none⟩) n n) HKD.out ⟨by simp [results, Try.results29, go_sem], _, rfl, ?_, below_shut HKD.out HI.out.old HDD.out⟩
    rw [HR.out]
    exact ownE_base (own_own (B := 0) (fun _ : List Unit => Value.slice (some ⟨g, 0, none⟩) n n) (fun _ => A (ys.map Subtype.val)) [] _ _ _ HI.out.own (grownBy_putObj' W D _) (fun r e => by cases e; exact ⟨Nat.zero_le _, _, HKD.out, rfl⟩)) (Nat.le_succ _)
  case stop =>
    intro D c pre W _ _ h
    exact h.elim
theorem enters_byNode : ∀ args w, (callFunc 29 args).run Try.prog w = .ok (.enter 29 args) w := entersE Try.func29 (by kernel_rfl) (by kernel_rfl)
end Go.Proofs.Ytccihllcohnnnaa
