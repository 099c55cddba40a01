/-
  A node's line, plainly: its place, its parent's, and so on.
  A region that draws its order WITHIN A ROUND of a range over a function: one walk in the text's order serves every order there, too; for every program.
  Behind a range over a function; for every program.
  Package tree: line, and the function that it hands on: whatever loop ranges over it.
  Package tree: Above, walked: a loop over a node's line.
  Package tree: Find, walked.
  Package tree: Kids, walked.
-/
import Derived.Test.YtanoijcgkacnmaaGV
import Derived.Test.YtanoijcgkacnmaaLex
import Derived.OrdersIn
import Derived.RangeFuncCalls
import Derived.RangeFuncNested
import Derived.RangeFuncBound
import Derived.RangeFuncLeaves
import Derived.RangeFuncFrom
import Derived.RangeFuncWrites
import Derived.Shelf.Abstract
import Derived.Shelf.RegionOpen
import Derived.OwnWalkIn
import Derived.TacticsInMore
import Derived.LoopNIn
import Derived.LoopIn
import Derived.Test.YtanoijcgkacnmaaP06Place
import Derived.Test.YtanoijcgkacnmaaP06May
import Derived.Test.YtanoijcgkacnmaaGJ
namespace Go.Proofs.Ytanoijcgkacnmaa

def lineF (l : List Nd) : Nat → Nat → List Nat
  | 0, i => [i]
  | f + 1, i => if i = 0 then [i] else i :: lineF l f (up l i)
def lineT (l : List Nd) (i : Nat) : List Nat := lineF l i i
section
variable {l : List Nd}
theorem lineF_fuel (h : MayT l) : ∀ (k : Nat), k < l.length → ∀ f, k ≤ f → lineF l f k = lineF l k k := by
  intro k
  induction k using Nat.strongRecOn with
  | _ k ih =>
    intro hk f hf
    by_cases h0 : k = 0
    · subst h0
      cases f with
      | zero => rfl
      | succ f => simp [lineF]
    · obtain ⟨_, hu, _⟩ := h.par (Nat.pos_of_ne_zero h0) hk
      obtain ⟨f', rfl⟩ : ∃ f', f = f' + 1 := ⟨f - 1, by omega⟩
      obtain ⟨k', hk'⟩ : ∃ k', k = k' + 1 := ⟨k - 1, by omega⟩
      have e1 := ih (up l k) hu (by omega) f' (by omega)
      have e2 := ih (up l k) hu (by omega) k' (by omega)
      rw [show lineF l k k = lineF l (k' + 1) k by rw [← hk']]
      simp only [lineF]
      rw [e1, e2]
theorem line_zero : lineT l 0 = [0] := rfl
theorem line_up (h : MayT l) {k : Nat} (h0 : 0 < k) (hk : k < l.length) : lineT l k = k :: lineT l (up l k) := by
  obtain ⟨_, hu, _⟩ := h.par h0 hk
  obtain ⟨k', rfl⟩ : ∃ k', k = k' + 1 := ⟨k - 1, by omega⟩
  unfold lineT
  rw [show lineF l (k' + 1) (k' + 1) = if k' + 1 = 0 then [k' + 1] else (k' + 1) :: lineF l k' (up l (k' + 1)) from rfl]
  rw [if_neg (Nat.succ_ne_zero _), lineF_fuel h (up l (k' + 1)) (by omega) k' (by omega)]
theorem line_cons (h : MayT l) {k : Nat} (hk : k < l.length) : lineT l k = k :: (if k = 0 then [] else lineT l (up l k)) := by
  by_cases h0 : k = 0
  · subst h0; rfl
  · rw [if_neg h0, line_up h (Nat.pos_of_ne_zero h0) hk]
theorem line_mem (h : MayT l) (i : Nat) : ∀ k, k < l.length → (i ∈ lineT l k ↔ aboveT l i k = true) := by
  intro k
  induction k using Nat.strongRecOn with
  | _ k ih =>
    intro hk
    by_cases h0 : k = 0
    · subst h0
      rw [line_zero, above_zero, List.mem_singleton, decide_eq_true_iff]
    · obtain ⟨_, hu, _⟩ := h.par (Nat.pos_of_ne_zero h0) hk
      rw [line_up h (Nat.pos_of_ne_zero h0) hk, above_iff h i (Nat.pos_of_ne_zero h0) hk, List.mem_cons, ih _ hu (by omega)]
theorem line_lt (h : MayT l) {k : Nat} (hk : k < l.length) {i : Nat} (hi : i ∈ lineT l k) : i < l.length := by
  have := above_le h i k hk ((line_mem h i k hk).1 hi)
  omega
theorem line_len (h : MayT l) : ∀ k, k < l.length → (lineT l k).length ≤ k + 1 := by
  intro k
  induction k using Nat.strongRecOn with
  | _ k ih =>
    intro hk
    by_cases h0 : k = 0
    · subst h0; rw [line_zero]; exact Nat.le_refl _
    · obtain ⟨_, hu, _⟩ := h.par (Nat.pos_of_ne_zero h0) hk
      rw [line_up h (Nat.pos_of_ne_zero h0) hk, List.length_cons]
      have := ih _ hu (by omega)
      omega
/-- The first one on a line that is no later than a slot is the ancestor there. -/
theorem line_at (h : MayT l) (s : Nat) : ∀ k, k < l.length → ∀ (q r : List Nat) (x : Nat), lineT l k = q ++ x :: r → (∀ y ∈ q, s < sl l y) → sl l x ≤ s → atT l k s = x := by
  intro k
  induction k using Nat.strongRecOn with
  | _ k ih =>
    intro hk q r x e hq hx
    rw [line_cons h hk] at e
    cases q with
    | nil =>
      rw [List.nil_append] at e
      injection e with e1 _
      subst e1
      exact at_self h hk hx
    | cons y q =>
      rw [List.cons_append] at e
      injection e with e1 e2
      subst e1
      have h1 := hq k List.mem_cons_self
      by_cases h0 : k = 0
      · rw [if_pos h0] at e2
        cases q <;> cases e2
      · rw [if_neg h0] at e2
        obtain ⟨_, hu, _⟩ := h.par (Nat.pos_of_ne_zero h0) hk
        rw [at_up h s (Nat.pos_of_ne_zero h0) hk, if_neg (by omega)]
        exact ih _ hu (by omega) q r x e2 (fun z hz => hq z (List.mem_cons_of_mem _ hz)) hx
theorem line_not (h : MayT l) (s : Nat) {k : Nat} (hk : k < l.length) (ha : ∀ y ∈ lineT l k, s < sl l y) : atT l k s = -1 := by
  rcases at_spec h s k hk with ⟨e, _⟩ | ⟨n, _, hn, hab, hs, _⟩
  · exact e
  · have := ha n ((line_mem h n k hk).2 hab)
    omega
end
end Go.Proofs.Ytanoijcgkacnmaa
namespace Go.Proofs.Ytanoijcgkacnmaa
open Go.RowKit
section
variable {P : Program} {ops : Array Oper} {Q : Exit → Act → World → Prop} {md : Region.Mode} {lo n : Nat}
def noDefer (ops : Array Oper) : Bool := ops.all fun o => match o.op with | .defer _ => false | _ => true
theorem noDefer_spec (h : noDefer ops = true) {i : Nat} {o : Oper} (hi : ops[i]? = some o) : ∀ c, o.op ≠ .defer c := by
  intro c e
  obtain ⟨hl, rfl⟩ := Array.getElem?_eq_some_iff.1 hi
  have := Array.all_eq_true.1 h i hl
  rw [e] at this
  cases this
theorem uponIn_plain {o : Oper} {a : Act} {K : Act → World → Prop} {r : Result Next} (h : o.upon P a K Q r) : o.uponIn (Fence.wide.inRound lo) n P a K Q r := by
  cases r with
  | ok x w' =>
    cases x with
    | value v => exact h
    | skip => exact h
    | defer d => exact h
    | enter f args => exact ⟨fun h => (by cases h), CallsIn.inRound lo (callsIn_wide.2 h)⟩
    | row row args => exact ⟨fun h => (by cases h), fun c cs _ => let ⟨v, w'', r, s⟩ := h c cs; ⟨v, w'', r, stepsIn_wide.2 s⟩⟩
    | round l f tmps assign body => exact h.elim
    | _ => exact h.elim
  | halt x w' =>
    cases x with
    | panic v => exact h
    | _ => exact h.elim
theorem wpOpIn_plain (hQ : ¬ LetsOut Q) (hd : noDefer ops = true) {i : Nat} {K K' : Act → World → Prop} {a : Act} {w : World} (hk : ∀ a w, K a w → K' a w) (h : wpOp P ops Q i K a w) : wpOpIn (Fence.wide.inRound lo) n P ops Q i K' a w := by
  refine wpOpIn_mono hk ?_
  unfold wpOp at h
  unfold wpOpIn
  split
  · rename_i e
    simp only [e] at h
    exact h
  · rename_i o e
    simp only [e] at h
    split
    · rename_i hw
      rw [if_pos hw] at h
      have h := h.resolve_right fun x => hQ x.2
      unfold Oper.wpIn
      refine ⟨fun _ _ => trivial, ?_⟩
      rw [Oper.semAt_eq _ _ _ (noDefer_spec hd e)]
      exact uponIn_plain h
    · rename_i hw
      rw [if_neg hw] at h
      exact ⟨fun _ _ => trivial, h⟩
theorem wpAnyIn_plain (hQ : ¬ LetsOut Q) (hd : noDefer ops = true) : ∀ (fuel : Nat) (listed : Array Bool) (a : Act) (w : World), wpAny P md ops Q fuel listed a w → wpAnyIn (Fence.wide.inRound lo) n P md ops Q fuel listed a w
  | 0, _, _, _, h => h
  | fuel + 1, _, _, _, h => ⟨h.1, fun i hi => wpOpIn_plain hQ hd (fun _ _ hk => wpAnyIn_plain hQ hd fuel _ _ _ hk) (h.2 i hi)⟩
/-- What stands behind a region that runs through. -/
def Thru (Q : Exit → Act → World → Prop) (e : Exit) (a : Act) (w : World) : Prop := e = .normal ∧ Q .normal a w
theorem thru_out : ¬ LetsOut (Thru Q) := fun ⟨_, _, h, _⟩ => by cases h
/-- 'region_lex' in a round. -/
theorem region_lexR {L : World → World → Prop} (lr : ∀ w, L w w) (lt : ∀ {a b c : World}, L a b → L b c → L a c) (E : List Nat) {id : Nat} {a : Act} {w : World} {l : List Oper} (hd : noDefer l.toArray = true) (hm : P.follows .mixedOrders = true) (hB : Region.lexB .any l.toArray = true) (hc : chainB l.toArray E = true)
    (h : wpXL L P l.toArray E w.drew (Thru Q) 0 l a w.drew []) : (Code.region id l.toArray true).wpIn (Fence.wide.inRound lo) n P Q a w := by
  simp only [Region.lexB, Bool.and_eq_true] at hB
  refine wpIn_mono (Q := Thru Q) (wpIn_region_any hm (wpAnyIn_plain thru_out hd _ _ _ _ (wpAny_of_X (L := L) lr lt (E := E) (W := w.drew) _ _ _ _ [] ⟨lr _, by simp⟩ ?_))) (fun e a w hh => by obtain ⟨rfl, hh⟩ := hh; exact hh)
  have hd : DC l.toArray (Array.replicate l.toArray.size false) := fun k o _ hl => by
    rw [Array.getD_eq_getD_getElem?, Array.getElem?_replicate] at hl
    split at hl <;> simp at hl
  have := wpX_lex (P := P) (L := L) lr lt (E := E) (W := w.drew) (Q := Thru Q) hB.1 hc l 0 (Array.replicate l.toArray.size false) a w.drew [] ⟨lr _, by simp⟩ hd (by simp) (by simpa using hB.2) h
  simpa using this
/-- 'wp_region_lex' in a round (at the wide fence): the end is 'wpXL_nil ⟨rfl, ?_⟩'. -/
theorem wpIn_region_lexR (E : List Nat) {id : Nat} {a : Act} {w : World} {l : List Oper} (hd : noDefer l.toArray = true) (hm : P.follows .mixedOrders = true) (hB : Region.lexB .any l.toArray = true) (hc : chainB l.toArray E = true)
    (h : wpXL Lq P l.toArray E w.drew (Thru Q) 0 l a w.drew []) : (Code.region id l.toArray true).wpIn (Fence.wide.inRound lo) n P Q a w := region_lexR Lq.refl (fun h k => Lq.trans h k) E hd hm hB hc h
/-- A call of a Go function in a round, by its plain contract. -/
theorem calls_round {f : FuncId} {args : Array Value} {w : World} {R : Ending → World → Prop} (h : Calls P f args w R) : CallsIn (Fence.wide.inRound lo) n P f args w R := CallsIn.inRound lo (callsIn_wide.2 h)
end
end Go.Proofs.Ytanoijcgkacnmaa
namespace Go.Proofs.Ytanoijcgkacnmaa
open Go.RowKit Go.Shelf

theorem cell_of_box {W : World} {B : Nat} {v : Value} {t : TypeId} (h : W.heap[B]? = some (.cells #[v] t (0, 0))) : W.cell? ⟨B, 0, none⟩ = some v ∧ W.frozen? ⟨B, 0, none⟩ = false := by
  constructor <;> simp [World.cell?, World.frozen?, h]
/-- The way out behind a range over a function: its mark's block is shut; what is answered is read then. -/
theorem leave_M {F : Fence} {n : Nat} {P : Program} {fn : Func} {tmps : Array Value} {R : Ending → World → Prop} {W : World} {D : Nat} {v : Value} (hK : W.heap[D]? = some (.deferred (some [])))
    (h : (results fn tmps).run P (W.putObj D (.deferred none)) = .ok v (W.putObj D (.deferred none)) ∧ R (.returned v) (W.putObj D (.deferred none))) : LeavesInM F n P fn tmps R [{ target := .collected D, args := #[] }] .returning W :=
  ⟨by simp, .inl ⟨D, _, rfl, run_takeDeferred hK, ⟨v, h.1, h.2⟩⟩⟩
theorem cell_shut {W : World} {D : Nat} {a : Addr} {v : Value} (hK : W.heap[D]? = some (.deferred (some []))) (hc : W.cell? a = some v) : (W.putObj D (.deferred none)).cell? a = some v :=
  cell_kept hc (grownBy_putObj' W D (.deferred none)) (fun r e => by cases e; exact ⟨_, hK, rfl⟩)
theorem below_shut {B D : Nat} {w W : World} (hK : W.heap[D]? = some (.deferred (some []))) (h : Below B w W) (hB : B ≤ D) : Below B w (W.putObj D (.deferred none)) :=
  h.grown (grownBy_putObj' W D (.deferred none)) (by have := (Array.getElem?_eq_some_iff.1 hK).1; omega) (fun k e => by cases e; exact hB)
/-- Between two rounds nothing has turned that lay when the loop began. -/
theorem own_go {α : Type} {B : Nat} {W0 : World} (p : List α → Prop) (hB : W0.heap.size ≤ B) : OwnFrom B (fun pre W => p pre ∧ Below W0.heap.size W0 W) :=
  OwnFrom.and (fun _ _ _ _ h _ _ => h) (ownFrom_below (Nat.le_refl _) hB)
/-- A round has left: a cell holds what is answered. -/
theorem own_left {α : Type} {B : Nat} {w : World} (p : List α → Prop) (a : Addr) (v : List α → Value) (hB : w.heap.size ≤ B) : OwnFrom B (fun pre W => (p pre ∧ W.cell? a = some (v pre)) ∧ Below w.heap.size w W) :=
  OwnFrom.and (Own.from (fun _ _ _ _ hs hg hr => ⟨hs.1, cell_kept hs.2 hg hr⟩) _) (ownFrom_below (Nat.le_refl _) hB)
end Go.Proofs.Ytanoijcgkacnmaa
namespace Go.Proofs.Ytanoijcgkacnmaa
open Go.RowKit Go.Shelf

attribute [local go_sem] Oper.semAt_some

set_option maxRecDepth 100000 in
set_option maxHeartbeats 1000000 in
/-- line: the tree and the place are boxed; what is handed on captures both. -/
theorem treeLine (t : Tr) (i : Int) (w : World) :
    Calls Try.prog 30 #[.agg (tr t), .int .i64 i] w fun e w' => e = .returned (.func (.func 35) #[] #[.pointer (some ⟨w.heap.size + 1, 0, none⟩), .pointer (some ⟨w.heap.size, 0, none⟩)]) ∧ w' = (w.alloc (.cells (tr t) 24)).alloc (.cells #[.int .i64 i] 3) := by
  go_enter Try.func30, Try.ntmps30
  go_wp2_with fail
  go_ret
  exact ⟨rfl, rfl⟩

/-- The places on a node's line. -/
abbrev Ln (l : List Nd) (i : Nat) := { x : Nat // x ∈ lineT l i }
set_option maxRecDepth 100000 in
set_option maxHeartbeats 4000000 in
theorem line_stops (F : Fence) (d : Nat) (hf : F.fn 35) (hro : F.round = none) (hd : 1 ≤ d) (bi bt b1 o1 n cp n₀ : Nat) (l : List Nd) (i : Nat) (w : World) (hm : MayT l) (hl : l.length = n) (hi : i < n)
    (hbi : w.cell? ⟨bi, 0, none⟩ = some (.int .i64 (i : Int))) (hbt : w.heap[bt]? = some (.cells (tr ⟨⟨some ⟨b1, o1, none⟩, n, cp⟩⟩) 24 (0, 0))) (hx : w.rangeAt b1 o1 (cellsE Ene l))
    (h1 : bi < n₀) (h2 : bt < n₀) (h3 : b1 < n₀) (hn₀ : n₀ ≤ w.heap.size) :
    SeqStopsK F d Try.prog 35 #[.pointer (some ⟨bi, 0, none⟩), .pointer (some ⟨bt, 0, none⟩)] (fun x : Ln l i => #[Value.int .i64 (x.1 : Int)]) (Below n₀) (fun ys => ys.map Subtype.val = lineT l i) (fun pre => pre.map Subtype.val <+: lineT l i) (lineT l i).length w := by
  intro lo J Jx W hW _ _ hY hJ0
  have HL := Lib.hid hl
  have HM := Lib.hid hm
  have HI := Lib.hid hi
  have HY := Lib.hid hY
  have HJ0 := Lib.hid hJ0
  have g0 := hW.mono hn₀
  have HC : Hid (∀ W', Below n₀ W W' → W'.cell? ⟨bi, 0, none⟩ = some (.int .i64 (i : Int))) := fun W' g => ((g0.trans g).cell (p := ⟨bi, 0, none⟩) h1).trans hbi
  have HT : Hid (∀ W', Below n₀ W W' → W'.heap[bt]? = some (.cells (tr ⟨⟨some ⟨b1, o1, none⟩, n, cp⟩⟩) 24 (0, 0))) := fun W' g => ((g0.trans g).block _ h2).trans hbt
  have HR : Hid (∀ W', Below n₀ W W' → W'.rangeAt b1 o1 (cellsE Ene l)) := fun W' g j v hv => ((g0.trans g).cell (p := ⟨b1, o1 + j, none⟩) h3).trans (hx j v hv)
  have z00 := HC.out W (Below.refl _ _)
  clear hl hm hi hY hJ0 hbi hbt hx h1 h2 h3 hn₀ hW g0
  refine callsIn_of_wp Try.func35 rfl hf ?_ hro
  simp only [Try.ntmps35, List.size_toArray, List.length_cons, List.length_nil, Nat.reduceAdd, Nat.reduceSub, Array.replicate_succ, Array.replicate_zero, List.push_toArray, List.append_toArray, List.nil_append, List.cons_append]
  gi_wp2
  gi_loopw [4] (fun v wr => ∃ (pre : List (Ln l i)) (m : Nat), m ≤ n ∧ v = .int .i64 ((m : Int) - 1) ∧ lineT l i = pre.map Subtype.val ++ (if m = 0 then [] else lineT l (m - 1)) ∧ Below n₀ W wr ∧ J pre wr) (fun v _ => (intOf v + 1).toNat)
  case atStart => exact ⟨[], i + 1, HI.out, by rw [show ((i + 1 : Nat) : Int) - 1 = (i : Int) by omega], by rw [if_neg (Nat.succ_ne_zero _), Nat.add_sub_cancel, List.map_nil, List.nil_append], Below.refl _ _, HJ0.out⟩
  case round =>
    obtain ⟨pre, m, hmn, rfl, he, hg, hj⟩ := hrel
    have HE := Lib.hid he
    have HG := Lib.hid hg
    have HJ := Lib.hid hj
    have HMN := Lib.hid hmn
    clear he hg hj hmn
    by_cases h0 : m = 0
    · subst h0
      have HE' : Hid (pre.map Subtype.val = lineT l i) := by show _ = _; have := HE.out; rw [if_pos rfl, List.append_nil] at this; exact this.symm
      rw [show (((0 : Nat) : Int) - 1) = -1 from rfl]
      gi_wp2
      go_end0
      exact ⟨⟨_, rfl⟩, .inl ⟨pre, HE'.out, HJ.out⟩⟩
    · obtain ⟨k, rfl⟩ : ∃ k, m = k + 1 := ⟨m - 1, by omega⟩
      rw [show (((k + 1 : Nat) : Int) - 1) = (k : Int) by omega]
      have HE' : Hid (lineT l i = pre.map Subtype.val ++ lineT l k) := HE.out.trans (by rw [if_neg h0, Nat.add_sub_cancel])
      have HK : Hid (k < n) := HMN.out
      have HC' : Hid (lineT l k = k :: (if k = 0 then [] else lineT l (up l k))) := line_cons HM.out (by have := HL.out; have := HK.out; omega)
      have HIN : Hid (k ∈ lineT l i) := by show k ∈ lineT l i; rw [HE'.out, HC'.out]; simp
      have t0 : ((k : Int) != -1) = true := by simp
      have u1 : (k : Int) < (n : Int) := by have := HK.out; omega
      have u2 : (0 : Int) ≤ (k : Int) := by omega
      obtain ⟨fn, tmps, assign, body, hy, hR⟩ := HY.out pre ⟨k, HIN.out⟩ wr HJ.out (by rw [HE'.out, List.length_append, HC'.out]; simp)
      have HRR := Lib.hid hR
      clear h0 HE HMN hR
      gi_wp2
      refine HRR.out.mono ?_
      rintro e W3 (⟨rfl, hJ3, hk3⟩ | ⟨rfl, hJx3⟩)
      · have HG3 := Lib.hid (HG.out.trans hk3)
        have HJ3 := Lib.hid hJ3
        obtain ⟨z0, z1, zl⟩ := tr_cells (HT.out W3 HG3.out)
        dsimp only at z0
        rw [sv_mk] at z0
        have y1 := nds_par (HR.out W3 HG3.out) (i := k) (by have := HL.out; have := HK.out; omega)
        clear hJ3 hk3
        by_cases hk : k = 0
        · subst hk
          rw [HM.out.first, Nat.zero_mul, Nat.add_zero] at y1
          gi_wp2
          go_roundw
          case rel => exact ⟨pre ++ [⟨0, HIN.out⟩], 0, Nat.zero_le _, rfl, HE'.out.trans (by rw [HC'.out]; simp), HG3.out, HJ3.out⟩
          case measure => simp [intOf]
        · obtain ⟨hp, hu, _⟩ := HM.out.par (k := k) (by omega) (by have := HL.out; have := HK.out; omega)
          rw [hp] at y1
          have HU := Lib.hid hu
          have HK0 := Lib.hid hk
          clear hp hu hk
          gi_wp2
          go_roundw
          case rel => exact ⟨pre ++ [⟨k, HIN.out⟩], up l k + 1, by have := HU.out; have := HK.out; omega, by rw [show ((up l k + 1 : Nat) : Int) - 1 = (up l k : Int) by omega], HE'.out.trans (by rw [HC'.out, if_neg HK0.out, if_neg (Nat.succ_ne_zero _), Nat.add_sub_cancel, List.map_append, List.append_assoc]; rfl), HG3.out, HJ3.out⟩
          case measure => have := HU.out; simp [intOf]; omega
      · have HJ3 := Lib.hid hJx3
        clear hJx3
        gi_wp2
        refine bodyPost_ret (results_none rfl _ _ _) rfl ?_
        exact ⟨⟨_, rfl⟩, .inr ⟨pre ++ [⟨k, HIN.out⟩], ⟨if k = 0 then [] else lineT l (up l k), (HE'.out.trans (by rw [HC'.out, List.map_append, List.append_assoc]; rfl)).symm⟩, HJ3.out⟩⟩
end Go.Proofs.Ytanoijcgkacnmaa
namespace Go.Proofs.Ytanoijcgkacnmaa
open Go.RowKit Go.Shelf

attribute [local go_sem] Oper.semAt_some

set_option maxRecDepth 100000 in
set_option maxHeartbeats 4000000 in
theorem treeAbove_no (s : SlV) (l : List Nd) (i k : Int) (w : World) (h : SlE Ene w (sv s) l) (hk : isT l k = false) :
    Calls Try.prog 19 #[.agg (tr ⟨s⟩), .int .i64 i, .int .i64 k] w fun e w' => e = .returned (.bool false) ∧ Below w.heap.size w w' := by
  have HP := Lib.hid (fun W (g : Below w.heap.size w W) => treePlace s l k W (slE_keep g h))
  rw [hk] at HP
  obtain ⟨W0, hW0⟩ : ∃ W0, W0 = ((w.alloc (.cells (tr ⟨s⟩) 24)).alloc (.cells #[.int .i64 i] 3)).alloc (.cells #[.bool false] 4) := ⟨_, rfl⟩
  obtain ⟨hB, h0, h1, h2, hz⟩ := heap3 w _ _ _ _ _ _ W0 hW0
  have HB := Lib.hid hB
  have H2 := Lib.hid h2
  have HW := Lib.hid hW0
  clear hW0 h hk hB h0 h1 h2 hz
  go_enter Try.func19, Try.ntmps19
  go_wp2_with fail
  rw [← HW.out]
  refine (HP.out W0 HB.out).mono ?_
  rintro e w1 ⟨rfl, g1⟩
  have G1 := Lib.hid (belowT HB.out g1)
  have hc : w1.cell? ⟨w.heap.size + 1 + 1, 0, none⟩ = some (.bool false) ∧ w1.frozen? ⟨w.heap.size + 1 + 1, 0, none⟩ = false := cell_of_box (blk_keep g1 H2.out)
  obtain ⟨z0, z1⟩ := hc
  clear g1
  go_wp2_with fail
  have hs := World.cell?_setCell_same' w1 ⟨w.heap.size + 1 + 1, 0, none⟩ (.bool false) (by rw [z0]; rfl)
  exact bodyPost_ret (v := .bool false) (by simp [results, Try.results19, go_sem, hs]) rfl ⟨rfl, G1.out.setCell (p := ⟨w.heap.size + 1 + 1, 0, none⟩) (by simp; omega) _⟩

set_option maxRecDepth 100000 in
set_option maxHeartbeats 4000000 in
theorem treeAbove_yes (s : SlV) (l : List Nd) (i : Int) (k : Nat) (w : World) (h : SlE Ene w (sv s) l) (hm : MayT l) (hk : k < l.length) :
    Calls Try.prog 19 #[.agg (tr ⟨s⟩), .int .i64 i, .int .i64 (k : Int)] w fun e w' => e = .returned (.bool (decide (0 ≤ i) && aboveT l i.toNat k)) ∧ Below w.heap.size w w' := by
  have HP := Lib.hid (fun W (g : Below w.heap.size w W) => treePlace s l k W (slE_keep g h))
  rw [isT_nat hm hk] at HP
  have HL := Lib.hid (sv_lenN h)
  obtain ⟨p, n, cp⟩ := s
  dsimp only at HL
  obtain ⟨b1, o1, rfl, q1, x1⟩ := slE_ptr h hm.pos
  obtain ⟨W0, hW0⟩ : ∃ W0, W0 = ((w.alloc (.cells (tr ⟨⟨some ⟨b1, o1, none⟩, n, cp⟩⟩) 24)).alloc (.cells #[.int .i64 i] 3)).alloc (.cells #[.bool false] 4) := ⟨_, rfl⟩
  obtain ⟨hB, h0, h1, h2, hz⟩ := heap3 w _ _ _ _ _ _ W0 hW0
  have HB := Lib.hid hB
  have H0 := Lib.hid h0
  have H1 := Lib.hid h1
  have H2 := Lib.hid h2
  have HZ := Lib.hid hz
  have HW := Lib.hid hW0
  have HX := Lib.hid x1
  have HQ := Lib.hid q1
  have HM := Lib.hid hm
  have HK := Lib.hid hk
  obtain ⟨r, hr⟩ : ∃ r, r = (decide (0 ≤ i) && aboveT l i.toNat k) := ⟨_, rfl⟩
  rw [← hr]
  have HR := Lib.hid hr
  clear hW0 h hk hB h0 h1 h2 hz hm x1 q1 hr
  refine callsIn_wide.1 (callsIn_of_wp_marks (n := 3) Try.func19 rfl trivial (wpIn_wide.2 ?_))
  simp only [Try.ntmps19, List.size_toArray, List.length_cons, List.length_nil, Nat.reduceAdd, Nat.reduceSub, Array.replicate_succ, Array.replicate_zero, List.push_toArray, List.append_toArray, List.nil_append, List.cons_append]
  go_wp2_with fail
  rw [← HW.out]
  refine (HP.out W0 HB.out).mono ?_
  rintro e w1 ⟨rfl, g1⟩
  have G1 := Lib.hid (belowT HB.out g1)
  have G01 := Lib.hid g1
  have z1 := ldA_block (blk_keep g1 H0.out) (tr_size _)
  clear g1
  go_wp2_with fail
  refine (treeLine _ _ _).mono ?_
  rintro e w2 ⟨rfl, hw2⟩
  obtain ⟨hB2, hT2, hC2, hz2⟩ := heap2 w1 _ _ _ _ w2 hw2
  have HB2 := Lib.hid hB2
  have HT2 := Lib.hid hT2
  have HC2 := Lib.hid hC2
  have HZ2 := Lib.hid hz2
  clear hw2 hB2 hT2 hC2 hz2 z1
  go_wp2_with fail
  refine (wpIn_wide (n := 3)).1 ?_
  have hs1 : w.heap.size + 3 ≤ w1.heap.size := by have := G01.out.size; have := HZ.out; omega
  have HS1 := Lib.hid hs1
  clear hs1
  refine wpIn_rangeFunc_ownF (w0 := w2) rfl (by omega) (gf := 35) (lb := #[.pointer (some ⟨w1.heap.size + 1, 0, none⟩), .pointer (some ⟨w1.heap.size, 0, none⟩)]) rfl trivial (entersE Try.func35 (by kernel_rfl) (by kernel_rfl))
    (line_stops Fence.wide 2 trivial rfl (by omega) (w1.heap.size + 1) w1.heap.size b1 o1 n cp w2.heap.size l k w2 HM.out HL.out (by have := HL.out; have := HK.out; omega)
      (cell_of_box HC2.out).1 HT2.out (keepR (belowT G1.out HB2.out) HX.out) (by have := HZ2.out; omega) (by have := HZ2.out; omega) (by have := HQ.out; have := HS1.out; have := HZ2.out; omega) (Nat.le_refl _))
    belowK_t (belowK_b (Nat.le_refl _)) (Below.refl _ _) (fun _ => rfl)
    (fun pre W => (∀ y ∈ pre, ((y.1 : Nat) : Int) ≠ i) ∧ Below w2.heap.size w2 W)
    (fun c pre W => (((c = .ret ∧ ∃ y ∈ pre, ((y.1 : Nat) : Int) = i) ∧ W.cell? ⟨w.heap.size + 1 + 1, 0, none⟩ = some (.bool true)) ∧ Below w.heap.size w W))
    (own_go _ (Nat.le_refl _)) (fun c => own_left (w := w) (B := w2.heap.size) (fun pre : List (Ln l k) => c = .ret ∧ ∃ y ∈ pre, ((y.1 : Nat) : Int) = i) _ (fun _ => .bool true) (by have := HZ2.out; have := HS1.out; omega))
    ⟨fun _ h => absurd h List.not_mem_nil, Below.refl _ _⟩ ?a1 ?assign ?body ?done ?stop
  case assign =>
    intro lo x W K hK
    gi_wp2
    exact hK
  case body =>
    rintro lo pre x W ⟨hp, hB⟩ hlen
    have HP := Lib.hid hp
    have HBW := Lib.hid hB
    have c1 := (cell_of_box (blk_keep (belowT G01.out (belowT HB2.out hB)) H1.out)).1
    obtain ⟨c2, c3⟩ := cell_of_box (blk_keep (belowT G01.out (belowT HB2.out hB)) H2.out)
    have HC2' : Hid (W.cell? ⟨w.heap.size + 1 + 1, 0, none⟩ = some (.bool false) ∧ W.frozen? ⟨w.heap.size + 1 + 1, 0, none⟩ = false) := ⟨c2, c3⟩
    have HBw : Hid (Below w.heap.size w W) := belowT G1.out (belowT HB2.out hB)
    clear hp hB c2 c3 hlen
    obtain ⟨c2, c3⟩ := HC2'.out
    by_cases he : ((x.1 : Nat) : Int) = i
    · have t1 : (((x.1 : Nat) : Int) == i) = true := by simpa using he
      have HE := Lib.hid he
      clear he
      gi_wp2
      exact ⟨KeepsOthers.setCell _ _ _, ⟨⟨rfl, x, by simp, HE.out⟩, World.cell?_setCell_same' _ _ _ (by rw [HC2'.out.1]; rfl)⟩, HBw.out.setCell (p := ⟨w.heap.size + 1 + 1, 0, none⟩) (by simp; omega) _⟩
    · have t1 : (((x.1 : Nat) : Int) == i) = false := by simpa using he
      have HE := Lib.hid he
      clear he
      gi_wp2
      exact ⟨KeepsOthers.refl _, Below.refl _ _, fun y hy => by
        rcases List.mem_append.1 hy with h | h
        · exact HP.out y h
        · rw [List.mem_singleton] at h; subst h; exact HE.out, HBW.out⟩
  case done =>
    rintro D ys W hD hys ⟨hp, hB⟩ hK
    have hX : r = false := by
      rw [HR.out, Bool.and_eq_false_iff, ← Bool.not_eq_true]
      by_cases h0 : 0 ≤ i
      · right
        rw [← Bool.not_eq_true]
        intro ha
        have hin := (line_mem HM.out i.toNat k HK.out).2 ha
        rw [← hys] at hin
        obtain ⟨y, hy, e⟩ := List.mem_map.1 hin
        exact hp y hy (by omega)
      · left; simpa using h0
    have HX' := Lib.hid hX
    have HKD := Lib.hid hK
    have HBW := Lib.hid hB
    have hc : W.cell? ⟨w.heap.size + 1 + 1, 0, none⟩ = some (.bool false) ∧ W.frozen? ⟨w.heap.size + 1 + 1, 0, none⟩ = false := cell_of_box (blk_keep (belowT G01.out (belowT HB2.out hB)) H2.out)
    have HC := Lib.hid hc
    obtain ⟨c2, c3⟩ := hc
    have HBw : Hid (Below w.heap.size w W) := belowT G1.out (belowT HB2.out hB)
    clear hX hp hB hK hys
    go_wp2_with fail
    have hK' := (KeepsOthers.setCell W ⟨w.heap.size + 1 + 1, 0, none⟩ (.bool false)).same D _ HKD.out rfl
    have hs := cell_shut hK' (World.cell?_setCell_same' W ⟨w.heap.size + 1 + 1, 0, none⟩ (.bool false) (by rw [HC.out.1]; rfl))
    exact leave_M (v := .bool false) hK' ⟨by simp [results, Try.results19, go_sem, hs], by rw [HX'.out], below_shut hK' (HBw.out.setCell (p := ⟨w.heap.size + 1 + 1, 0, none⟩) (by simp; omega) _) (by have := HZ2.out; have := HS1.out; omega)⟩
  case stop =>
    rintro D c pre W hD hpre ⟨⟨⟨rfl, y, hy, he⟩, hc⟩, hB⟩ hK
    have hX : r = true := by
      rw [HR.out, Bool.and_eq_true, decide_eq_true_iff]
      refine ⟨by omega, (line_mem HM.out i.toNat k HK.out).1 ?_⟩
      rw [show i.toNat = y.1 by omega]
      exact hpre.subset (List.mem_map_of_mem hy)
    have HX' := Lib.hid hX
    have HBW := Lib.hid hB
    have HKD := Lib.hid hK
    have hs := cell_shut hK hc
    have HD := Lib.hid hD
    clear hX hB hy he hpre
    gi_wp2
    exact leave_M (v := .bool true) HKD.out ⟨by simp [results, Try.results19, go_sem, hs], by rw [HX'.out], below_shut HKD.out HBW.out (by have := HZ2.out; have := HS1.out; have := HD.out; omega)⟩
/-- Above. -/
theorem treeAbove (s : SlV) (l : List Nd) (i k : Int) (w : World) (h : SlE Ene w (sv s) l) :
    Calls Try.prog 19 #[.agg (tr ⟨s⟩), .int .i64 i, .int .i64 k] w fun e w' => e = .returned (.bool (aboveZ l i k)) ∧ Below w.heap.size w w' := by
  by_cases hk : isT l k = true
  · obtain ⟨hm, hk0, hk1⟩ := isT_iff.1 hk
    obtain ⟨k', rfl⟩ : ∃ k' : Nat, k = k' := ⟨k.toNat, by omega⟩
    have e : aboveZ l i (k' : Int) = (decide (0 ≤ i) && aboveT l i.toNat k') := by
      unfold aboveZ
      rw [hk, Int.toNat_natCast, Bool.and_true]
      by_cases h0 : 0 ≤ i
      · rw [decide_eq_true h0, Bool.true_and]
        by_cases ha : aboveT l i.toNat k' = true
        · have := above_le hm i.toNat k' (by omega) ha
          rw [ha, Bool.and_true]
          exact isT_iff.2 ⟨hm, h0, by omega⟩
        · rw [Bool.not_eq_true] at ha
          rw [ha, Bool.and_false]
      · have : isT l i = false := by
          rw [← Bool.not_eq_true, isT_iff]
          exact fun hh => h0 hh.2.1
        rw [this, decide_eq_false h0]
    rw [e]
    exact treeAbove_yes s l i k' w h hm (by omega)
  · have hk' : isT l k = false := by simpa using hk
    have e : aboveZ l i k = false := by unfold aboveZ; rw [hk', Bool.and_false, Bool.false_and]
    rw [e]
    exact treeAbove_no s l i k w h hk'
theorem enters_above06 : ∀ args w, (callFunc 19 args).run Try.prog w = .ok (.enter 19 args) w := entersE Try.func19 (by kernel_rfl) (by kernel_rfl)
end Go.Proofs.Ytanoijcgkacnmaa
namespace Go.Proofs.Ytanoijcgkacnmaa
open Go.RowKit Go.Maps

theorem zero_intE (w : World) : (zeroValue 3).run Try.prog w = .ok (.int .i64 0) w := by kernel_rfl
/-- 'v, ok := m[k]' where what is there is known. -/
theorem look_is {W : World} {b n : Nat} {D : DataW Unit} (h : W.ownsMap Try.prog 27 (plainElem Try.prog 3) b n D) {r : Rt} {c : Int} (hc : D.atKey (rk r) (iL 0) = .lit (.int .i64 c)) :
    (Instr.lookup 47 (.map (some b)) (.agg (rc r)) true).run Try.prog W = .ok (.tuple #[.int .i64 c, .bool (Maps.has D (rk r))]) W := by
  obtain ⟨v, ps, hrun, hv⟩ := h.look_ok keyed_root Try.underlying47 (zero_intE W) (plainElem_int Try.underlying3 (by decide)) (key_root r)
  obtain ⟨a, rfl, hz, _⟩ := plainElem_int_inv Try.underlying3 hv
  have e : D.atKey (rk r) (.lit (.int .i64 0)) = .lit (.int .i64 a) := congrArg Prod.fst hz
  have hc' : D.atKey (rk r) (.lit (.int .i64 0)) = .lit (.int .i64 c) := hc
  rw [e] at hc'
  injection hc' with h1
  injection h1 with _ h2
  rw [← h2]
  exact hrun
/-- What a place's root leads to. -/
def putR (l : List Nd) (r : Rt) : Int := if 0 ≤ findT l r then findT l r else 0
theorem plD_look {l : List Nd} (h : MayT l) (r : Rt) : (plD l l.length).atKey (rk r) (iL 0) = .lit (.int .i64 (putR l r)) ∧ Maps.has (plD l l.length) (rk r) = decide (0 ≤ findT l r) := by
  obtain ⟨h1, h2⟩ := plD_find h r
  refine ⟨?_, h1⟩
  unfold putR
  by_cases hf : 0 ≤ findT l r
  · rw [if_pos hf]; exact h2 hf
  · rw [if_neg hf]
    exact atKey_of_not_has (by rw [h1]; exact decide_eq_false hf) _

set_option maxRecDepth 100000 in
set_option maxHeartbeats 4000000 in
theorem treeFind (s : SlV) (l : List Nd) (r : Rt) (w : World) (h : SlE Ene w (sv s) l) :
    Calls Try.prog 20 #[.agg (tr ⟨s⟩), .agg (rc r)] w fun e w' => e = .returned (.int .i64 (findT l r)) ∧ Below w.heap.size w w' := by
  have HM := Lib.hid (fun W (g : Below w.heap.size w W) => treeMay s l W (slE_keep g h))
  have HS := Lib.hid h
  obtain ⟨a, ha⟩ : ∃ a, a = decide (MayT l) := ⟨_, rfl⟩
  rw [← ha] at HM
  have HA := Lib.hid ha
  obtain ⟨W0, hW0⟩ : ∃ W0, W0 = (w.alloc (.cells (tr ⟨s⟩) 24)).alloc (.cells (rc r) 27) := ⟨_, rfl⟩
  obtain ⟨hB, h0, h1, hz⟩ := heap2 w _ _ _ _ W0 hW0
  have HB := Lib.hid hB
  have H0 := Lib.hid h0
  have H1 := Lib.hid h1
  have HW := Lib.hid hW0
  obtain ⟨x, hx⟩ : ∃ x, x = findT l r := ⟨_, rfl⟩
  rw [← hx]
  have HX := Lib.hid hx
  clear h hW0 hB h0 h1 hz ha hx
  go_enter Try.func20, Try.ntmps20
  go_wp2_with fail
  rw [← HW.out]
  refine (HM.out W0 HB.out).mono ?_
  rintro e w1 ⟨rfl, g1⟩
  have G1 := Lib.hid (belowT HB.out g1)
  have N0 := Lib.hid (blk_keep g1 H0.out)
  have N1 := Lib.hid (blk_keep g1 H1.out)
  clear g1
  cases a
  · have hX : Hid (x = -1) := by show x = -1; rw [HX.out]; exact find_not (fun hm => by have := HA.out; rw [decide_eq_true hm] at this; cases this) r
    go_wp2_with fail
    go_ret
    exact ⟨by rw [hX.out]; first | done | rfl, G1.out⟩
  · have HMl := Lib.hid (of_decide_eq_true HA.out.symm)
    have hx := HX.out
    obtain ⟨c, hc⟩ : ∃ c, c = putR l r := ⟨_, rfl⟩
    obtain ⟨q, hq⟩ : ∃ q, q = decide (0 ≤ x) := ⟨_, rfl⟩
    have hlk := plD_look HMl.out r
    rw [← hc, ← hx, ← hq] at hlk
    have HLK := Lib.hid hlk
    have HXF : Hid (q = false → -1 = x) := fun e => by
      have := find_ge (l := l) r
      rw [e] at hq
      have := of_decide_eq_false hq.symm
      omega
    have HXT : Hid (q = true → c = x) := fun e => by
      rw [e] at hq
      have := of_decide_eq_true hq.symm
      rw [hc]; unfold putR
      rw [if_pos (by omega)]; exact hx.symm
    clear hx hc hq hlk
    go_wp2_with fail
    have La := fun q : Wd w1.drew => wd_tr N0.out q
    have Lb := fun q : Wd w1.drew => wd_ld (ldA_block N1.out (rc_size r)) (by decide) q
    refine wp_region_lex [1] (by kernel_rfl) (by kernel_rfl) (by kernel_rfl) ?_
    repeat (refine wpXL_quiet rfl rfl _ cls_begin ?_; (first | go_big_quiet_step (fail) | quiet_step (fail)); refine wpQuiet_nil ?_)
    refine wpXL_call rfl rfl rfl enters_places #[.agg (tr ⟨s⟩)] rfl ?_
    refine (treePlaces s l _ (slE_keep (belowT G1.out (belowD (Below.refl _ _) 1)) HS.out) (by have := HMl.out.le; omega)).mono ?_
    rintro e u ⟨b, rfl, ho, g⟩
    refine ⟨_, rfl, g, ?_⟩
    simp only [Act.put, List.setIfInBounds_toArray, List.set_cons_zero, List.set_cons_succ]
    have Lc := fun q : Wd u => look_is (ownsMap_keep q.h ho) HLK.out.1
    rw [HLK.out.2] at Lc
    have G := Lib.hid (belowT (belowT G1.out (belowD (Below.refl _ _) 1)) g)
    clear g ho
    refine wpXL_quiet rfl rfl _ cls_begin ?_
    (first | go_big_quiet_step (fail) | quiet_step (fail))
    refine wpQuiet_nil ?_
    refine wpXL_quiet rfl rfl u (cls_at 1 u (by simp) (by kernel_rfl)) ?_
    (first | go_big_quiet_step (fail) | quiet_step (fail))
    refine wpQuiet_nil ?_
    repeat (refine wpXL_quiet rfl rfl _ cls_begin ?_; (first | go_big_quiet_step (fail) | quiet_step (fail)); refine wpQuiet_nil ?_)
    refine wpXL_nil ?_
    cases q
    · have hX : Hid (-1 = x) := HXF.out rfl
      go_wp2_with fail
      go_ret
      exact ⟨by rw [← hX.out]; first | done | rfl, G.out⟩
    · have hX : Hid (c = x) := HXT.out rfl
      go_wp2_with fail
      go_ret
      exact ⟨by rw [← hX.out]; first | done | rfl, G.out⟩
theorem enters_find06 : ∀ args w, (callFunc 20 args).run Try.prog w = .ok (.enter 20 args) w := entersE Try.func20 (by kernel_rfl) (by kernel_rfl)
end Go.Proofs.Ytanoijcgkacnmaa
namespace Go.Proofs.Ytanoijcgkacnmaa
open Go.RowKit

set_option maxRecDepth 100000 in
set_option maxHeartbeats 4000000 in
theorem treeKids (s : SlV) (l : List Nd) (i : Int) (w : World) (h : SlE Ene w (sv s) l) :
    Calls Try.prog 18 #[.agg (tr ⟨s⟩), .int .i64 i] w (IntsIs (kidsI l i) w) := by
  have HP := Lib.hid (fun W (g : Below w.heap.size w W) => treePlace s l i W (slE_keep g h))
  have HL := Lib.hid (sv_lenN h)
  obtain ⟨p, n, cp⟩ := s
  dsimp only at HL
  obtain ⟨a, ha⟩ : ∃ a, a = isT l i := ⟨_, rfl⟩
  rw [← ha] at HP
  obtain ⟨W0, hW0⟩ : ∃ W0, W0 = w.alloc (.cells (tr ⟨⟨p, n, cp⟩⟩) 24) := ⟨_, rfl⟩
  have HB : Hid (Below w.heap.size w W0) := by rw [hW0]; exact below1
  have M0 : Hid (W0.heap[w.heap.size]? = some (.cells (tr ⟨⟨p, n, cp⟩⟩) 24 (0, 0))) := by rw [hW0]; exact heap_alloc_last w _
  have HS := Lib.hid h
  have HW := Lib.hid hW0
  have HA := Lib.hid ha
  clear hW0 h ha
  cases a
  · have HE : Hid (kidsI l i = []) := kidsI_not HA.out.symm
    go_enter Try.func18, Try.ntmps18
    go_wp2_with fail
    rw [← HW.out]
    refine (HP.out W0 HB.out).mono ?_
    rintro e w1 ⟨rfl, g1⟩
    have G1 := Lib.hid (belowT HB.out g1)
    clear g1
    go_wp2_with fail
    go_ret
    exact ⟨_, rfl, by rw [HE.out]; exact ownE_nil _ _ _, G1.out⟩
  · obtain ⟨hm, hi0, hi1⟩ := isT_iff.1 HA.out.symm
    obtain ⟨i', rfl⟩ : ∃ i' : Nat, i = i' := ⟨i.toNat, by omega⟩
    have HE : Hid (kidsI l (i' : Int) = kidsUp l i' n) := by show _ = _; rw [kidsI_nat hm (by omega), HL.out]
    have HN : Hid (n ≤ 12) := by show n ≤ 12; have := hm.le; have := HL.out; omega
    obtain ⟨b1, o1, rfl, q1, x1⟩ := slE_ptr HS.out hm.pos
    clear hi0 hi1 HA hm
    go_enter Try.func18, Try.ntmps18
    go_wp2_with fail
    rw [← HW.out]
    refine (HP.out W0 HB.out).mono ?_
    rintro e w1 ⟨rfl, g1⟩
    have G1 := Lib.hid (belowT HB.out g1)
    have M1 := Lib.hid (blk_keep g1 M0.out)
    have X1 := Lib.hid (keepR G1.out x1)
    obtain ⟨z0, z1, zl⟩ := tr_cells M1.out
    dsimp only at z0
    rw [sv_mk] at z0
    clear g1 x1 q1
    go_wp2_with fail
    go_loopw [5, 15] (fun v i wr => ∃ j : Nat, j ≤ n ∧ i = .int .i64 (j : Int) ∧ OwnE Eint wr w1.heap.size v (kidsUp l i' j) ∧ Below w1.heap.size w1 wr) (fun _ i _ => n - (intOf i).toNat)
    case atStart => exact ⟨0, Nat.zero_le _, rfl, ownE_nil _ _ _, Below.refl _ _⟩
    case round =>
      obtain ⟨j, hj, rfl, hown, hb⟩ := hrel
      have HO := Lib.hid hown
      have HBB := Lib.hid hb
      obtain ⟨z0, z1, zl⟩ := tr_cells (blk_keep hb M1.out)
      dsimp only at z0
      rw [sv_mk] at z0
      clear hown hb
      by_cases hlt : j < n
      · have i0 : (0 : Int) ≤ (j : Int) := by omega
        have i1 : (j : Int) < (n : Int) := by omega
        have u1 : (j : Int) + 1 < 10000 := by have := HN.out; omega
        have y1 := keep HBB.out (show ldA w1 (.pointer (some ⟨b1, o1 + j * 35, none⟩)) 35 = some (ne (nd l j)) from nds_ld X1.out (by have := HL.out; omega))
        have HXn : Hid (∃ x, x = nd l j) := ⟨_, rfl⟩
        obtain ⟨x, hx⟩ := HXn.out
        rw [← hx] at y1
        have HXx := Lib.hid hx
        clear HXn hx
        by_cases he : x.parent = (i' : Int)
        · have t1 : (x.parent == (i' : Int)) = true := by simpa using he
          have HE2 : Hid (kidsUp l i' (j + 1) = kidsUp l i' j ++ [(j : Int)]) := kidsUp_yes (by rw [← HXx.out]; exact he)
          have HLn := Lib.hid (kidsUp_len l i' j)
          clear he
          go_wp2_with (at_builtin; refine wpList_append_E Kint _ rfl (.tmp 24) (.tmp 26) rfl w1.heap.size _ (kidsUp l i' j) rfl (ownE_alloc (ownE_alloc HO.out _) _) _ [(j : Int)] rfl (slE_lit _ [(j : Int)] 1 _ _ _ rfl (by simp) rfl) (by have := HLn.out; have := HN.out; simp; omega) (by have := HBB.out.size; simp; omega) ?_; intro v2 w2 ho2 hg2)
          go_roundw
          case rel => exact ⟨j + 1, by omega, by go_num, by rw [HE2.out]; exact ho2, (belowT HBB.out (belowT below1 below1)).trans (hg2.own (ownE_alloc (ownE_alloc HO.out _) _) (by have := HBB.out.size; simp; omega))⟩
          case measure => simp [intOf]; omega
        · have t1 : (x.parent == (i' : Int)) = false := by simpa using he
          have HE2 : Hid (kidsUp l i' (j + 1) = kidsUp l i' j) := kidsUp_no (by rw [← HXx.out]; exact he)
          clear he
          go_wp2_with fail
          go_roundw
          case rel => exact ⟨j + 1, by omega, by go_num, by rw [HE2.out]; exact ownE_alloc HO.out _, belowT HBB.out below1⟩
          case measure => simp [intOf]; omega
      · obtain rfl : j = n := by omega
        clear hlt
        go_wp2_with fail
        go_ret
        exact ⟨_, rfl, by rw [HE.out]; exact ownE_base HO.out G1.out.size, belowT G1.out HBB.out⟩
theorem enters_kids06 : ∀ args w, (callFunc 18 args).run Try.prog w = .ok (.enter 18 args) w := entersE Try.func18 (by kernel_rfl) (by kernel_rfl)
end Go.Proofs.Ytanoijcgkacnmaa
