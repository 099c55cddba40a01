/-
  []int: append, s[n:], an argument; in any translation that has it. (written by wip/mkslice.py)
  Lists of ints in memory: one read; what is answered.
  What is asked of stake.Who.
  Those that a mask has, rising: plainly.
  Package stake: Who, walked.
-/
import Derived.Test.YtkbifcfgcokmlaaQ05
import Derived.Test.YtkbifcfgcokmlaaQ13
import Derived.Test.YtkbifcfgcokmlaaQ10
import Derived.Test.YtkbifcfgcokmlaaQ32
namespace Go.Proofs.Ytkbifcfgcokmlaa
open Go.RowKit
set_option maxRecDepth 100000
theorem info_int : (Try.prog.info? 3).map (fun i => (i.zero, i.size, i.bytes)) = some (some (.int .i64 0), 1, 8) := by kernel_rfl
theorem Kint : Known Try.prog Eint 61 := ⟨Try.underlying61, .int .i64 0, 8, info_int, rfl, by decide⟩
@[go_sem ↓] theorem slice_from_int (ρ : Operand → Value) (dst : Option Tmp) (x lo : Operand) (ty : TypeId) (pos : String) (after : Array Edge) (guard : Option (Nat × Bool)) (w : World) :
    (execOp ρ { dst, op := .slice 61 x (some lo) none none, type := ty, pos, after, guard }).run Try.prog w = vOutE (cutFE 1 (ρ x) (ρ lo)) w (opRest Try.prog ρ { dst, op := .slice 61 x (some lo) none none, type := ty, pos, after, guard } w) :=
  slice_from_E Try.underlying61 Try.sizeOf3 ρ dst x lo ty pos after guard w
section
open Go.WideShapes Go.ChangeShapes
variable {H : Type} {enc : TypeId × Value → H} {w : World} {base : Nat} {sp : Nat → Bool} {held : Bool}
set_option maxRecDepth 100000 in
/-- A slice's one cell. -/
theorem cell_ints {fuel : Nat} {v : Value} {x : DataW H × List MemPlace} (h : DataW.trod enc Try.prog w base sp held fuel 61 [v] = some x) : ∃ l : List Int, SlE Eint w v l :=
  cells_E Try.underlying61 cellsOf_int (fun _ _ _ h => cells_int h) h
set_option maxRecDepth 100000 in
theorem open_ints {r : Reach} {b0 : Nat} {v : Value} {d : DataW H} {ps : List MemPlace} (hval : Value.okWide Try.prog w r b0 61 v) (hd : DataW.Trod enc Try.prog w base sp held 61 v d ps) : ∃ l : List Int, SlE Eint w v l := by
  obtain ⟨a, len, cap, rfl⟩ := okWide_slice Try.underlying61 hval
  obtain ⟨fuel, hf⟩ := hd
  exact cell_ints hf
end
end Go.Proofs.Ytkbifcfgcokmlaa
namespace Go.Proofs.Ytkbifcfgcokmlaa
open Go.RowKit
set_option maxRecDepth 100000
/-- Numbers are answered, in memory of the call's own. -/
def IntsIs (L : List Int) (w : World) (e : Ending) (w' : World) : Prop := ∃ v, e = .returned v ∧ OwnE Eint w' w.heap.size v L ∧ Below w.heap.size w w'
theorem ints_at {w : World} {b off : Nat} {a : List Int} (h : w.rangeAt b off (cellsE Eint a)) {i : Nat} (hi : i < a.length) : w.cell? ⟨b, off + i, none⟩ = some (.int .i64 (a.getD i 0)) := by
  have := cell_at h hi (j := 0) (v := .int .i64 a[i]) rfl
  rw [List.getD_eq_getElem?_getD, List.getElem?_eq_getElem hi]
  simpa [Eint] using this
theorem ints_ptr {w : World} {p : Option Addr} {n cp : Nat} {a : List Int} (h : SlE Eint w (.slice p n cp) a) (h0 : 0 < a.length) : ∃ b o, p = some ⟨b, o, none⟩ ∧ b < w.heap.size ∧ w.rangeAt b o (cellsE Eint a) := by
  obtain ⟨b, o, c, e, _, q, x⟩ := slE_ne h h0
  injection e with e1 e2 e3
  exact ⟨b, o, e1, q, x⟩
/-- Ints are answered, in whatever memory. -/
def ListIs (L : List Int) (w : World) (e : Ending) (w' : World) : Prop := ∃ v, e = .returned v ∧ SlE Eint w' v L ∧ Below w.heap.size w w'
theorem IntsIs.list {L : List Int} {w w' : World} {e : Ending} (h : IntsIs L w e w') : ListIs L w e w' := by
  obtain ⟨v, h1, h2, h3⟩ := h
  exact ⟨v, h1, ownE_slE h2, h3⟩
end Go.Proofs.Ytkbifcfgcokmlaa
namespace Go.Proofs.Ytkbifcfgcokmlaa
open Go.RowKit
set_option maxRecDepth 100000

def StWhoC : Prop := ∀ (m : UInt64) (w : World), Calls Try.prog 35 #[.int .u64 (m.toNat : Int)] w (ListIs (whoI m) w)
end Go.Proofs.Ytkbifcfgcokmlaa
namespace Go.Proofs.Ytkbifcfgcokmlaa
set_option maxRecDepth 100000

theorem who_sorted (mask : UInt64) : (whoT mask).Pairwise (· < ·) := by unfold whoT; exact List.Pairwise.filter _ List.pairwise_lt_range
theorem whoT_len (mask : UInt64) : (whoT mask).length ≤ 64 := by
  unfold whoT
  have := List.length_filter_le (hasB mask) (List.range 64)
  rwa [List.length_range] at this
end Go.Proofs.Ytkbifcfgcokmlaa
namespace Go.Proofs.Ytkbifcfgcokmlaa
open Go.RowKit Go.Shelf
set_option maxRecDepth 100000

attribute [local go_sem] Oper.semAt_some

def toZ11 (ks : List Nat) : List Int := ks.map fun k : Nat => (k : Int)
theorem toZ11_snoc (ks : List Nat) (k : Nat) : toZ11 (ks ++ [k]) = toZ11 ks ++ [(k : Int)] := by unfold toZ11; rw [List.map_append]; rfl
theorem toZ11_len (ks : List Nat) : (toZ11 ks).length = ks.length := List.length_map ..
/-- A variable holds a list of the call's own. -/
def Out11 (D n₀ : Nat) (L : List Int) (W : World) : Prop := ∃ v, W.heap[D]? = some (.cells #[v] 61 (0, 0)) ∧ OwnE Eint W n₀ v L
theorem out11_own {α : Type} {B D n₀ : Nat} (f : List α → List Int) (hD : D < B) : OwnFrom B (fun s W => Out11 D n₀ (f s) W) := fun s W W' row ⟨v, h1, h2⟩ hg hr =>
  ⟨v, blk_own (fun _ : List α => Obj.cells #[v] 61 (0, 0)) hD s W W' row h1 hg hr, own_own (fun _ => v) f s W W' row h2 hg hr⟩
theorem But.grown11 {s0 n₀ D : Nat} {A W W' : World} {row : Option Nat} (h : But s0 n₀ D A W) (hg : W.grownBy W' row) (hr : ∀ r, row = some r → n₀ ≤ r) (hs : s0 ≤ n₀) (hn : n₀ ≤ W.heap.size) : But s0 n₀ D A W' :=
  h.trans (But.of_below ((Below.refl _ _).grown hg hn hr) hs)

set_option maxRecDepth 100000 in
set_option maxHeartbeats 4000000 in
theorem stakeWho : StWhoC := fun mask w => by
  obtain ⟨z, hz⟩ : ∃ z, z = whoI mask := ⟨_, rfl⟩
  have HZ : Hid (z = toZ11 (whoT mask)) := hz
  have HN : Hid ((whoT mask).length ≤ 64) := whoT_len mask
  rw [← hz]
  obtain ⟨W1, hW1⟩ : ∃ W1, W1 = w.alloc (.cells #[.slice none 0 0] 61) := ⟨_, rfl⟩
  have HB1 : Hid (Below w.heap.size w W1) := by rw [hW1]; exact below1
  have M1 : Hid (W1.heap[w.heap.size]? = some (.cells #[.slice none 0 0] 61 (0, 0))) := by rw [hW1]; exact heap_alloc_last w _
  have HZ1 : Hid (W1.heap.size = w.heap.size + 1) := by show _ = _; rw [hW1]; simp
  have HW1 := Lib.hid hW1
  have HE : Hid (∀ W, Calls Try.prog 42 #[.int .u64 (mask.toNat : Int)] W fun e w' => e = .returned (.func (.func 54) #[] #[.pointer (some ⟨W.heap.size, 0, none⟩)]) ∧ w' = W.alloc (.cells #[.int .u64 (mask.toNat : Int)] 23)) := fun W => stakeEach _ W
  have HD := Lib.hid (fun (w2 : World) (s0 D bt : Nat) (hs0 : s0 ≤ w2.heap.size) (hDb : D < bt) t0 => each_stops 2 (by omega) mask s0 D bt w2 hs0 hDb t0)
  obtain ⟨m, hm⟩ : ∃ m, m = (mask.toNat : Int) := ⟨_, rfl⟩
  rw [← hm] at HE HD
  rw [← hm]
  clear hW1 hz hm
  refine callsIn_wide.1 (callsIn_of_wp_marks (n := 3) Try.func35 rfl trivial (wpIn_wide.2 ?_))
  simp only [Try.ntmps35, List.size_toArray, List.length_cons, List.length_nil, Nat.reduceAdd, Nat.reduceSub, Array.replicate_succ, Array.replicate_zero, List.push_toArray, List.append_toArray, List.nil_append, List.cons_append]
  go_wp2_with fail
  rw [← HW1.out]
  refine (HE.out W1).mono ?_
  rintro e w2 ⟨rfl, hw2⟩
  have hB2 : Below W1.heap.size W1 w2 := by rw [hw2]; exact below1
  have t0 : w2.heap[W1.heap.size]? = some (.cells #[.int .u64 m] 23 (0, 0)) := by rw [hw2]; exact heap_alloc_last W1 _
  have hz2 : w2.heap.size = W1.heap.size + 1 := by rw [hw2]; simp
  have HBw : Hid (Below w.heap.size w w2) := belowT HB1.out hB2
  have HSZ : Hid (w.heap.size < W1.heap.size ∧ W1.heap.size < w2.heap.size) := by
    show _ ∧ _
    have := HZ1.out
    omega
  have HDn := Lib.hid (HD.out w2 w.heap.size w.heap.size W1.heap.size (by have := HSZ.out; omega) (by have := HSZ.out; omega) t0)
  have HKs : Hid (w2.heap[w.heap.size]? = some (.cells #[.slice none 0 0] 61 (0, 0))) := blk_keep hB2 M1.out
  clear hw2 hB2 t0 hz2 HD HE
  go_wp2_with fail
  refine (wpIn_wide (n := 3)).1 ?_
  refine wpIn_rangeFunc_ownF (w0 := w2) rfl (by omega) (gf := 54) (lb := #[.pointer (some ⟨W1.heap.size, 0, none⟩)]) rfl trivial (entersE Try.func54 (by kernel_rfl) (by kernel_rfl))
    HDn.out butK_t (butK_b (by have := HSZ.out; omega) (Nat.le_refl _)) (Below.refl _ _) (fun _ => rfl)
    (fun pre W => Out11 w.heap.size w2.heap.size (toZ11 (pre.map Subtype.val)) W ∧ But w.heap.size w2.heap.size w.heap.size w2 W)
    (fun _ _ _ => False)
    (OwnFrom.and (out11_own _ (by have := HSZ.out; omega)) (But.own (Nat.le_refl _) (Nat.le_refl _) (by have := HSZ.out; omega))) (fun _ _ _ _ _ h _ _ => h)
    ⟨⟨_, HKs.out, ownE_nil _ _ _⟩, But.refl _ _ _ _⟩ ?a1 ?assign ?body ?done ?stop
  case assign =>
    intro lo x W K hK
    gi_wp2
    exact hK
  case body =>
    rintro lo pre x W ⟨⟨v, hp, ho⟩, hB⟩ hlen
    obtain ⟨k, hk⟩ := x
    have HP := Lib.hid hp
    have HBW := Lib.hid hB
    have HO := Lib.hid ho
    have HE : Hid (toZ11 ((pre ++ [(⟨k, hk⟩ : { x : Nat // x ∈ whoT mask })]).map Subtype.val) = toZ11 (pre.map Subtype.val) ++ [(k : Int)]) := by show _ = _; rw [List.map_append, List.map_cons, List.map_nil, toZ11_snoc]
    obtain ⟨K, hK⟩ : ∃ K, K = toZ11 (pre.map Subtype.val) := ⟨_, rfl⟩
    have HKl : Hid (K.length ≤ 64) := by show K.length ≤ 64; rw [hK, toZ11_len, List.length_map]; have := HN.out; omega
    rw [← hK] at HE HO
    obtain ⟨m, hm⟩ : ∃ m, m = K.length := ⟨_, rfl⟩
    obtain ⟨pv, cv, rfl⟩ := ownE_len HO.out hm.symm
    have HM := Lib.hid hm
    obtain ⟨y1, y2⟩ := cell_of_box hp
    have HBS : Hid (w2.heap.size ≤ W.heap.size) := hB.below.size
    clear hp hB ho hlen hK hm
    show Code.wpIn _ _ _ _ (ownPostK _ _ _ (pre ++ [⟨k, hk⟩]) W) _ W
    gi_wp2_with (gi_at_builtin; refine wpListIn_append_E Kint _ rfl (.tmp 8) (.tmp 10) rfl w2.heap.size _ K rfl (ownE_alloc HO.out _) _ [(k : Int)] rfl (slE_lit _ [(k : Int)] 1 _ _ _ rfl (by simp) rfl) (by have := HKl.out; simp; omega) (by have := HBS.out; simp; omega) ?_; intro v' w' ho' hgr'; obtain ⟨vp, vc, hv⟩ := ownE_len ho' (n := m + 1) (by rw [List.length_append, HM.out]; rfl); rw [hv] at ho' hgr' ⊢; clear hv; have HO' := Lib.hid ho'; have HGR := Lib.hid hgr'; have HNR : Hid (∀ r, (Value.slice pv m cv).ownBlock = some r → w2.heap.size ≤ r) := (fun r e => (ownE_lt HO.out e).1); have HP' : Hid (w'.heap[w.heap.size]? = some (.cells #[.slice pv m cv] 61 (0, 0))) := (hgr'.1.block _ (Nat.lt_of_lt_of_le (by have := HSZ.out; omega) (Nat.le_trans HBS.out (by simp))) (fun e => by have := HNR.out _ e.symm; have := HSZ.out; omega)).trans (blk_keep below1 HP.out); have y3 := (cell_of_box HP'.out).1; have y4 := (cell_of_box HP'.out).2; clear ho' hgr')
    refine ⟨((KeepsOthers.alloc _ _).trans (KeepsOthers.of_grownBy HGR.out.1 (fun j o e hj => own_cellsR (ownE_alloc HO.out _) e hj))).trans (KeepsOthers.setCell _ _ _), ?_, ⟨_, box_set HP'.out _, ?_⟩, ?_⟩
    · exact (((But.refl _ _ _ _).then below1 (by have := HSZ.out; omega) HBS.out).grown11 HGR.out.1 HNR.out (by have := HSZ.out; omega) (by have := HBS.out; simp; omega)).setCell (Nat.le_refl _) _
    · show OwnE Eint _ _ _ (toZ11 ((pre ++ [(⟨k, hk⟩ : { x : Nat // x ∈ whoT mask })]).map Subtype.val))
      rw [HE.out]
      exact ownE_set HO'.out (by have := HSZ.out; omega) _
    · exact ((HBW.out.then below1 (by have := HSZ.out; omega) HBS.out).grown11 HGR.out.1 HNR.out (by have := HSZ.out; omega) (by have := HBS.out; simp; omega)).setCell (Nat.le_refl _) _
  case done =>
    rintro D ys W hD hys ⟨⟨v, hp, ho⟩, hB⟩ hK
    have hX : Hid (toZ11 (ys.map Subtype.val) = z) := by show _ = z; rw [hys, HZ.out]
    rw [hX.out] at ho
    obtain ⟨pv, cv, rfl⟩ := ownE_len ho rfl
    have c1 := (cell_of_box hp).1
    have HO := Lib.hid ho
    have HBf := Lib.hid (HBw.out.trans hB.below)
    have HKD := Lib.hid hK
    have HDw := Lib.hid hD
    have hDD : Hid (w.heap.size ≤ D) := by show _ ≤ _; have := HSZ.out; omega
    clear hp hB hK hys hD ho
    generalize z.length = m at *
    go_wp2_with fail
    exact leave_M (v := .slice pv m cv) HKD.out ⟨by simp [results, Try.results35, go_sem], ⟨_, rfl, ownE_slE (OwnFrom.putObj (own_own (E := Eint) (B := w2.heap.size) (base := w2.heap.size) (fun _ : List Nat => Value.slice pv m cv) (fun _ => z)) (s := []) _ HO.out HDw.out HKD.out rfl), below_shut HKD.out HBf.out hDD.out⟩⟩
  case stop =>
    rintro D c pre W hD hpre h
    exact h.elim
theorem enters_stakeWho : ∀ args w, (callFunc 35 args).run Try.prog w = .ok (.enter 35 args) w := entersE Try.func35 (by kernel_rfl) (by kernel_rfl)
end Go.Proofs.Ytkbifcfgcokmlaa
