/-
  Package tree: Find, walked.
  Package tree: isPlace.
  A node's line, plainly: its place, its parent's, and so on.
  Behind a range over a function; for every program.
-/
import Derived.Test.YtlhnjaeocoafnaaQ30
import Derived.Test.YtlhnjaeocoafnaaQ04
import Derived.Test.YtlhnjaeocoafnaaQ26
import Derived.RangeFuncNested
import Derived.RangeFuncBound
import Derived.RangeFuncCalls
import Derived.RangeFuncLeaves
import Derived.RangeFuncFrom
import Derived.RangeFuncWrites
import Derived.Shelf.Abstract
import Derived.Shelf.RegionOpen
import Derived.OwnWalkIn
import Derived.TacticsInMore
import Derived.LoopNIn
import Derived.LoopIn
namespace Go.Proofs.Ytlhnjaeocoafnaa
open Go.RowKit Go.Maps
set_option maxRecDepth 100000

theorem zero_intE (w : World) : (zeroValue 3).run Try.prog w = .ok (.int .i64 0) w := by kernel_rfl
/-- 'v, ok := m[k]' where what is there is known. -/
theorem look_is {W : World} {b n : Nat} {D : DataW Unit} (h : W.ownsMap Try.prog 30 (plainElem Try.prog 3) b n D) {r : Rt} {c : Int} (hc : D.atKey (rk r) (iL 0) = .lit (.int .i64 c)) :
    (Instr.lookup 75 (.map (some b)) (.agg (rc r)) true).run Try.prog W = .ok (.tuple #[.int .i64 c, .bool (Maps.has D (rk r))]) W := by
  obtain ⟨v, ps, hrun, hv⟩ := h.look_ok keyed_root Try.underlying75 (zero_intE W) (plainElem_int Try.underlying3 (by decide)) (key_root r)
  obtain ⟨a, rfl, hz, _⟩ := plainElem_int_inv Try.underlying3 hv
  have e : D.atKey (rk r) (.lit (.int .i64 0)) = .lit (.int .i64 a) := congrArg Prod.fst hz
  have hc' : D.atKey (rk r) (.lit (.int .i64 0)) = .lit (.int .i64 c) := hc
  rw [e] at hc'
  injection hc' with h1
  injection h1 with _ h2
  rw [← h2]
  exact hrun
/-- What a place's root leads to. -/
def putR (l : List Nd) (r : Rt) : Int := if 0 ≤ findT l r then findT l r else 0
theorem plD_look {l : List Nd} (h : MayT l) (r : Rt) : (plD l l.length).atKey (rk r) (iL 0) = .lit (.int .i64 (putR l r)) ∧ Maps.has (plD l l.length) (rk r) = decide (0 ≤ findT l r) := by
  obtain ⟨h1, h2⟩ := plD_find h r
  refine ⟨?_, h1⟩
  unfold putR
  by_cases hf : 0 ≤ findT l r
  · rw [if_pos hf]; exact h2 hf
  · rw [if_neg hf]
    exact atKey_of_not_has (by rw [h1]; exact decide_eq_false hf) _

set_option maxRecDepth 100000 in
set_option maxHeartbeats 4000000 in
theorem treeFind (s : SlV) (l : List Nd) (r : Rt) (w : World) (h : SlE Ene w (sv s) l) :
    Calls Try.prog 25 #[.agg (tr ⟨s⟩), .agg (rc r)] w fun e w' => e = .returned (.int .i64 (findT l r)) ∧ Below w.heap.size w w' := by
  have HM := Lib.hid (fun W (g : Below w.heap.size w W) => treeMay s l W (slE_keep g h))
  have HS := Lib.hid h
  obtain ⟨a, ha⟩ : ∃ a, a = decide (MayT l) := ⟨_, rfl⟩
  rw [← ha] at HM
  have HA := Lib.hid ha
  obtain ⟨W0, hW0⟩ : ∃ W0, W0 = (w.alloc (.cells (tr ⟨s⟩) 24)).alloc (.cells (rc r) 30) := ⟨_, rfl⟩
  obtain ⟨hB, h0, h1, hz⟩ := heap2 w _ _ _ _ W0 hW0
  have HB := Lib.hid hB
  have H0 := Lib.hid h0
  have H1 := Lib.hid h1
  have HW := Lib.hid hW0
  obtain ⟨x, hx⟩ : ∃ x, x = findT l r := ⟨_, rfl⟩
  rw [← hx]
  have HX := Lib.hid hx
  clear h hW0 hB h0 h1 hz ha hx
  go_enter Try.func25, Try.ntmps25
  go_wp2_with fail
  rw [← HW.out]
  refine (HM.out W0 HB.out).mono ?_
  rintro e w1 ⟨rfl, g1⟩
  have G1 := Lib.hid (belowT HB.out g1)
  have N0 := Lib.hid (blk_keep g1 H0.out)
  have N1 := Lib.hid (blk_keep g1 H1.out)
  clear g1
  cases a
  · have hX : Hid (x = -1) := by show x = -1; rw [HX.out]; exact find_not (fun hm => by have := HA.out; rw [decide_eq_true hm] at this; cases this) r
    go_wp2_with fail
    go_ret
    exact ⟨by rw [hX.out]; first | done | rfl, G1.out⟩
  · have HMl := Lib.hid (of_decide_eq_true HA.out.symm)
    have hx := HX.out
    obtain ⟨c, hc⟩ : ∃ c, c = putR l r := ⟨_, rfl⟩
    obtain ⟨q, hq⟩ : ∃ q, q = decide (0 ≤ x) := ⟨_, rfl⟩
    have hlk := plD_look HMl.out r
    rw [← hc, ← hx, ← hq] at hlk
    have HLK := Lib.hid hlk
    have HXF : Hid (q = false → -1 = x) := fun e => by
      have := find_ge (l := l) r
      rw [e] at hq
      have := of_decide_eq_false hq.symm
      omega
    have HXT : Hid (q = true → c = x) := fun e => by
      rw [e] at hq
      have := of_decide_eq_true hq.symm
      rw [hc]; unfold putR
      rw [if_pos (by omega)]; exact hx.symm
    clear hx hc hq hlk
    go_wp2_with fail
    have La := fun q : Wd w1.drew => wd_tr N0.out q
    have Lb := fun q : Wd w1.drew => wd_ld (ldA_block N1.out (rc_size r)) (by decide) q
    refine wp_region_lex [1] (by kernel_rfl) (by kernel_rfl) (by kernel_rfl) ?_
    repeat (refine wpXL_quiet rfl rfl _ cls_begin ?_; (first | go_big_quiet_step (fail) | quiet_step (fail)); refine wpQuiet_nil ?_)
    refine wpXL_call rfl rfl rfl enters_places #[.agg (tr ⟨s⟩)] rfl ?_
    refine (treePlaces s l _ (slE_keep (belowT G1.out (belowD (Below.refl _ _) 1)) HS.out) (by have := HMl.out.le; omega)).mono ?_
    rintro e u ⟨b, rfl, ho, g⟩
    refine ⟨_, rfl, g, ?_⟩
    simp only [Act.put, List.setIfInBounds_toArray, List.set_cons_zero, List.set_cons_succ]
    have Lc := fun q : Wd u => look_is (ownsMap_keep q.h ho) HLK.out.1
    rw [HLK.out.2] at Lc
    have G := Lib.hid (belowT (belowT G1.out (belowD (Below.refl _ _) 1)) g)
    clear g ho
    refine wpXL_quiet rfl rfl _ cls_begin ?_
    (first | go_big_quiet_step (fail) | quiet_step (fail))
    refine wpQuiet_nil ?_
    refine wpXL_quiet rfl rfl u (cls_at 1 u (by simp) (by kernel_rfl)) ?_
    (first | go_big_quiet_step (fail) | quiet_step (fail))
    refine wpQuiet_nil ?_
    repeat (refine wpXL_quiet rfl rfl _ cls_begin ?_; (first | go_big_quiet_step (fail) | quiet_step (fail)); refine wpQuiet_nil ?_)
    refine wpXL_nil ?_
    cases q
    · have hX : Hid (-1 = x) := HXF.out rfl
      go_wp2_with fail
      go_ret
      exact ⟨by rw [← hX.out]; first | done | rfl, G.out⟩
    · have hX : Hid (c = x) := HXT.out rfl
      go_wp2_with fail
      go_ret
      exact ⟨by rw [← hX.out]; first | done | rfl, G.out⟩
theorem enters_find06 : ∀ args w, (callFunc 25 args).run Try.prog w = .ok (.enter 25 args) w := entersE Try.func25 (by kernel_rfl) (by kernel_rfl)
end Go.Proofs.Ytlhnjaeocoafnaa
namespace Go.Proofs.Ytlhnjaeocoafnaa
open Go.RowKit
set_option maxRecDepth 100000

set_option maxRecDepth 100000 in
set_option maxHeartbeats 4000000 in
theorem treePlace (s : SlV) (l : List Nd) (i : Int) (w : World) (h : SlE Ene w (sv s) l) :
    Calls Try.prog 61 #[.agg (tr ⟨s⟩), .int .i64 i] w fun e w' => e = .returned (.bool (isT l i)) ∧ Below w.heap.size w w' := by
  have HM := Lib.hid (fun W (g : Below w.heap.size w W) => treeMay s l W (slE_keep g h))
  have hl := sv_lenN h
  obtain ⟨p, n, cp⟩ := s
  dsimp only at hl
  obtain ⟨r, hr⟩ : ∃ r, r = decide (MayT l) := ⟨_, rfl⟩
  rw [← hr] at HM
  obtain ⟨x, hx⟩ : ∃ x, x = isT l i := ⟨_, rfl⟩
  rw [← hx]
  have HX : Hid (x = (r && (decide (0 ≤ i) && decide (i < (n : Int))))) := by rw [hx, hr]; unfold isT; rw [hl]; rfl
  obtain ⟨W0, hW0⟩ : ∃ W0, W0 = w.alloc (.cells (tr ⟨⟨p, n, cp⟩⟩) 24) := ⟨_, rfl⟩
  have HB : Hid (Below w.heap.size w W0) := by rw [hW0]; exact below1
  have M0 : Hid (W0.heap[w.heap.size]? = some (.cells (tr ⟨⟨p, n, cp⟩⟩) 24 (0, 0))) := by rw [hW0]; exact heap_alloc_last w _
  have HW := Lib.hid hW0
  clear hW0 h hl hr hx
  go_enter Try.func61, Try.ntmps61
  go_wp2_with fail
  rw [← HW.out]
  refine (HM.out W0 HB.out).mono ?_
  rintro e w1 ⟨rfl, g1⟩
  have G1 := Lib.hid (belowT HB.out g1)
  obtain ⟨z0, z1, zl⟩ := tr_cells (blk_keep g1 M0.out)
  dsimp only at z0
  rw [sv_mk] at z0
  cases r
  · go_wp2_with fail
    go_ret
    exact ⟨by rw [HX.out]; rfl, G1.out⟩
  · by_cases h0 : 0 ≤ i
    · have t0 : decide (0 ≤ i) = true := decide_eq_true h0
      by_cases h1 : i < (n : Int)
      · have t1 : decide (i < (n : Int)) = true := decide_eq_true h1
        have hX : Hid (x = true) := by show x = true; rw [HX.out, t0, t1]; rfl
        clear h0 h1
        go_wp2_with fail
        go_ret
        exact ⟨by rw [hX.out]; first | done | rfl, G1.out⟩
      · have t1 : decide (i < (n : Int)) = false := decide_eq_false h1
        have hX : Hid (x = false) := by show x = false; rw [HX.out, t0, t1]; rfl
        clear h0 h1
        go_wp2_with fail
        go_ret
        exact ⟨by rw [hX.out]; first | done | rfl, G1.out⟩
    · have t0 : decide (0 ≤ i) = false := decide_eq_false h0
      have hX : Hid (x = false) := by show x = false; rw [HX.out, t0]; rfl
      clear h0
      go_wp2_with fail
      go_ret
      exact ⟨by rw [hX.out]; first | done | rfl, G1.out⟩

end Go.Proofs.Ytlhnjaeocoafnaa
namespace Go.Proofs.Ytlhnjaeocoafnaa
set_option maxRecDepth 100000

def lineF (l : List Nd) : Nat → Nat → List Nat
  | 0, i => [i]
  | f + 1, i => if i = 0 then [i] else i :: lineF l f (up l i)
def lineT (l : List Nd) (i : Nat) : List Nat := lineF l i i
section
variable {l : List Nd}
theorem lineF_fuel (h : MayT l) : ∀ (k : Nat), k < l.length → ∀ f, k ≤ f → lineF l f k = lineF l k k := by
  intro k
  induction k using Nat.strongRecOn with
  | _ k ih =>
    intro hk f hf
    by_cases h0 : k = 0
    · subst h0
      cases f with
      | zero => rfl
      | succ f => simp [lineF]
    · obtain ⟨_, hu, _⟩ := h.par (Nat.pos_of_ne_zero h0) hk
      obtain ⟨f', rfl⟩ : ∃ f', f = f' + 1 := ⟨f - 1, by omega⟩
      obtain ⟨k', hk'⟩ : ∃ k', k = k' + 1 := ⟨k - 1, by omega⟩
      have e1 := ih (up l k) hu (by omega) f' (by omega)
      have e2 := ih (up l k) hu (by omega) k' (by omega)
      rw [show lineF l k k = lineF l (k' + 1) k by rw [← hk']]
      simp only [lineF]
      rw [e1, e2]
theorem line_zero : lineT l 0 = [0] := rfl
theorem line_up (h : MayT l) {k : Nat} (h0 : 0 < k) (hk : k < l.length) : lineT l k = k :: lineT l (up l k) := by
  obtain ⟨_, hu, _⟩ := h.par h0 hk
  obtain ⟨k', rfl⟩ : ∃ k', k = k' + 1 := ⟨k - 1, by omega⟩
  unfold lineT
  rw [show lineF l (k' + 1) (k' + 1) = if k' + 1 = 0 then [k' + 1] else (k' + 1) :: lineF l k' (up l (k' + 1)) from rfl]
  rw [if_neg (Nat.succ_ne_zero _), lineF_fuel h (up l (k' + 1)) (by omega) k' (by omega)]
theorem line_cons (h : MayT l) {k : Nat} (hk : k < l.length) : lineT l k = k :: (if k = 0 then [] else lineT l (up l k)) := by
  by_cases h0 : k = 0
  · subst h0; rfl
  · rw [if_neg h0, line_up h (Nat.pos_of_ne_zero h0) hk]
theorem line_mem (h : MayT l) (i : Nat) : ∀ k, k < l.length → (i ∈ lineT l k ↔ aboveT l i k = true) := by
  intro k
  induction k using Nat.strongRecOn with
  | _ k ih =>
    intro hk
    by_cases h0 : k = 0
    · subst h0
      rw [line_zero, above_zero, List.mem_singleton, decide_eq_true_iff]
    · obtain ⟨_, hu, _⟩ := h.par (Nat.pos_of_ne_zero h0) hk
      rw [line_up h (Nat.pos_of_ne_zero h0) hk, above_iff h i (Nat.pos_of_ne_zero h0) hk, List.mem_cons, ih _ hu (by omega)]
theorem line_lt (h : MayT l) {k : Nat} (hk : k < l.length) {i : Nat} (hi : i ∈ lineT l k) : i < l.length := by
  have := above_le h i k hk ((line_mem h i k hk).1 hi)
  omega
theorem line_len (h : MayT l) : ∀ k, k < l.length → (lineT l k).length ≤ k + 1 := by
  intro k
  induction k using Nat.strongRecOn with
  | _ k ih =>
    intro hk
    by_cases h0 : k = 0
    · subst h0; rw [line_zero]; exact Nat.le_refl _
    · obtain ⟨_, hu, _⟩ := h.par (Nat.pos_of_ne_zero h0) hk
      rw [line_up h (Nat.pos_of_ne_zero h0) hk, List.length_cons]
      have := ih _ hu (by omega)
      omega
/-- The first one on a line that is no later than a slot is the ancestor there. -/
theorem line_at (h : MayT l) (s : Nat) : ∀ k, k < l.length → ∀ (q r : List Nat) (x : Nat), lineT l k = q ++ x :: r → (∀ y ∈ q, s < sl l y) → sl l x ≤ s → atT l k s = x := by
  intro k
  induction k using Nat.strongRecOn with
  | _ k ih =>
    intro hk q r x e hq hx
    rw [line_cons h hk] at e
    cases q with
    | nil =>
      rw [List.nil_append] at e
      injection e with e1 _
      subst e1
      exact at_self h hk hx
    | cons y q =>
      rw [List.cons_append] at e
      injection e with e1 e2
      subst e1
      have h1 := hq k List.mem_cons_self
      by_cases h0 : k = 0
      · rw [if_pos h0] at e2
        cases q <;> cases e2
      · rw [if_neg h0] at e2
        obtain ⟨_, hu, _⟩ := h.par (Nat.pos_of_ne_zero h0) hk
        rw [at_up h s (Nat.pos_of_ne_zero h0) hk, if_neg (by omega)]
        exact ih _ hu (by omega) q r x e2 (fun z hz => hq z (List.mem_cons_of_mem _ hz)) hx
theorem line_not (h : MayT l) (s : Nat) {k : Nat} (hk : k < l.length) (ha : ∀ y ∈ lineT l k, s < sl l y) : atT l k s = -1 := by
  rcases at_spec h s k hk with ⟨e, _⟩ | ⟨n, _, hn, hab, hs, _⟩
  · exact e
  · have := ha n ((line_mem h n k hk).2 hab)
    omega
end
end Go.Proofs.Ytlhnjaeocoafnaa
namespace Go.Proofs.Ytlhnjaeocoafnaa
open Go.RowKit Go.Shelf
set_option maxRecDepth 100000

set_option maxRecDepth 100000 in
theorem cell_of_box {W : World} {B : Nat} {v : Value} {t : TypeId} (h : W.heap[B]? = some (.cells #[v] t (0, 0))) : W.cell? ⟨B, 0, none⟩ = some v ∧ W.frozen? ⟨B, 0, none⟩ = false := by
  constructor <;> simp [World.cell?, World.frozen?, h]
/-- The way out behind a range over a function: its mark's block is shut; what is answered is read then. -/
theorem leave_M {F : Fence} {n : Nat} {P : Program} {fn : Func} {tmps : Array Value} {R : Ending → World → Prop} {W : World} {D : Nat} {v : Value} (hK : W.heap[D]? = some (.deferred (some [])))
    (h : (results fn tmps).run P (W.putObj D (.deferred none)) = .ok v (W.putObj D (.deferred none)) ∧ R (.returned v) (W.putObj D (.deferred none))) : LeavesInM F n P fn tmps R [{ target := .collected D, args := #[] }] .returning W :=
  ⟨by simp, .inl ⟨D, _, rfl, run_takeDeferred hK, ⟨v, h.1, h.2⟩⟩⟩
set_option maxRecDepth 100000 in
theorem cell_shut {W : World} {D : Nat} {a : Addr} {v : Value} (hK : W.heap[D]? = some (.deferred (some []))) (hc : W.cell? a = some v) : (W.putObj D (.deferred none)).cell? a = some v :=
  cell_kept hc (grownBy_putObj' W D (.deferred none)) (fun r e => by cases e; exact ⟨_, hK, rfl⟩)
theorem below_shut {B D : Nat} {w W : World} (hK : W.heap[D]? = some (.deferred (some []))) (h : Below B w W) (hB : B ≤ D) : Below B w (W.putObj D (.deferred none)) :=
  h.grown (grownBy_putObj' W D (.deferred none)) (by have := (Array.getElem?_eq_some_iff.1 hK).1; omega) (fun k e => by cases e; exact hB)
/-- Between two rounds nothing has turned that lay when the loop began. -/
theorem own_go {α : Type} {B : Nat} {W0 : World} (p : List α → Prop) (hB : W0.heap.size ≤ B) : OwnFrom B (fun pre W => p pre ∧ Below W0.heap.size W0 W) :=
  OwnFrom.and (fun _ _ _ _ h _ _ => h) (ownFrom_below (Nat.le_refl _) hB)
/-- A round has left: a cell holds what is answered. -/
theorem own_left {α : Type} {B : Nat} {w : World} (p : List α → Prop) (a : Addr) (v : List α → Value) (hB : w.heap.size ≤ B) : OwnFrom B (fun pre W => (p pre ∧ W.cell? a = some (v pre)) ∧ Below w.heap.size w W) :=
  OwnFrom.and (Own.from (fun _ _ _ _ hs hg hr => ⟨hs.1, cell_kept hs.2 hg hr⟩) _) (ownFrom_below (Nat.le_refl _) hB)
end Go.Proofs.Ytlhnjaeocoafnaa
