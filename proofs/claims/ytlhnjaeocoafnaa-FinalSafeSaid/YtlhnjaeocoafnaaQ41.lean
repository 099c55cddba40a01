/-
  A set of checkpoints, as a map keyed by them: what is in it.
  Package final: checkpoints that are asked for by what they are: put, has, groupOf, walked.
  What has turned, block by block; a way out behind many ranges over functions; for every program.
-/
import Derived.Test.YtlhnjaeocoafnaaQ35
import Derived.Test.YtlhnjaeocoafnaaQ01
import Derived.Maps.OwnSet
import Derived.Maps.OwnOps
import Derived.RangeFuncOwn
import Derived.Test.YtlhnjaeocoafnaaQ14
import Derived.Test.YtlhnjaeocoafnaaQ12
import Derived.Deep.Cut
import Derived.Deep.CutRange
import Derived.Deep.RegionLaw
import Derived.Test.YtlhnjaeocoafnaaQ31
import Derived.Test.YtlhnjaeocoafnaaQ26
import Derived.Maps.OwnIn
namespace Go.Proofs.Ytlhnjaeocoafnaa
open Go.RowKit Go.Maps
set_option maxRecDepth 100000

def setC : List Ck → DataW Unit
  | [] => .map []
  | c :: l => (setC l).put (ck c) (.agg [])
theorem setC_tidy : ∀ l, Tidy (setC l)
  | [] => tidy_empty
  | _ :: l => (setC_tidy l).put (isKey_ck _) _
theorem setC_has (c : Ck) : ∀ l, Maps.has (setC l) (ck c) = decide (c ∈ l)
  | [] => by rw [decide_eq_false List.not_mem_nil]; rfl
  | a :: l => by
    unfold setC
    by_cases e : a = c
    · subst e
      rw [has_put_same (setC_tidy l).isMap (isKey_ck a)]
      exact (decide_eq_true List.mem_cons_self).symm
    · rw [has_put_other (fun h => e (ck_inj h).symm), setC_has c l]
      exact decide_eq_decide.2 ⟨List.mem_cons_of_mem _, fun h => (List.mem_cons.1 h).resolve_left (fun h2 => e h2.symm)⟩
/-- The map in block b holds these, of at most N that were put. -/
def OwnsC (W : World) (b N : Nat) (S : List Ck) : Prop := ∃ (n : Nat) (k : List Ck), n ≤ N ∧ (∀ c, c ∈ k ↔ c ∈ S) ∧ W.ownsMap Try.prog 32 (unitElem (H := Unit)) b n (setC k)
theorem OwnsC.keep {W W' : World} {b N : Nat} {S : List Ck} (h : OwnsC W b N S) (g : Below W.heap.size W W') : OwnsC W' b N S := by
  obtain ⟨n, k, h1, h2, h3⟩ := h
  exact ⟨n, k, h1, h2, ownsMap_keep g h3⟩
theorem OwnsC.blk {W W' : World} {b N : Nat} {S : List Ck} (h : OwnsC W b N S) (e : W'.heap[b]? = W.heap[b]?) : OwnsC W' b N S := by
  obtain ⟨n, k, h1, h2, es, clock, hb, h3⟩ := h
  exact ⟨n, k, h1, h2, es, clock, e.trans hb, h3⟩
theorem OwnsC.lt {W : World} {b N : Nat} {S : List Ck} (h : OwnsC W b N S) : b < W.heap.size := by
  obtain ⟨n, k, h1, h2, es, clock, hb, h3⟩ := h
  exact (Array.getElem?_eq_some_iff.1 hb).1
theorem OwnsC.cells {W : World} {b N : Nat} {S : List Ck} (h : OwnsC W b N S) {o : Obj} (e : W.heap[b]? = some o) : o.isCells = false := by
  obtain ⟨n, k, h1, h2, es, clock, hb, h3⟩ := h
  rw [hb] at e
  cases e
  rfl
theorem OwnsC.same {W : World} {b N M : Nat} {S T : List Ck} (h : OwnsC W b N S) (hN : N ≤ M) (e : ∀ c, c ∈ S ↔ c ∈ T) : OwnsC W b M T := by
  obtain ⟨n, k, h1, h2, h3⟩ := h
  exact ⟨n, k, Nat.le_trans h1 hN, fun c => (h2 c).trans (e c), h3⟩
theorem ownsC_made (w : World) : OwnsC (w.alloc (.map #[] 0)) w.heap.size 0 [] := ⟨0, [], Nat.le_refl _, fun _ => Iff.rfl, World.ownsMap_made _ _ _ _⟩
theorem zeroUnitC (w : World) : (zeroValue 96).run Try.prog w = .ok (.agg #[]) w := by kernel_rfl
end Go.Proofs.Ytlhnjaeocoafnaa
namespace Go.Proofs.Ytlhnjaeocoafnaa
open Go.RowKit Go.Maps
set_option maxRecDepth 100000

theorem grown_afterC {a w w' : World} {row : Option Nat} (h : Below a.heap.size a w) (k : w.grownBy w' row) : a.grownBy w' row :=
  ⟨k.os.trans h.os, k.tape.trans h.tape, k.output.trans h.output, Nat.le_trans h.size k.size, fun i hi hr => (k.block i (Nat.lt_of_lt_of_le hi h.size) hr).trans (h.block i hi)⟩
theorem run_makeMapC {P : Program} {T k e : TypeId} (hu : P.underlying T = some (.map k e)) (n : Int) (w : World) : (Instr.makeMap T (some (.int .i64 n))).run P w = .ok (.map (some w.heap.size)) (w.alloc (.map #[] 0)) := by
  simp only [Instr.makeMap]
  simp [run_underlying hu, asInt]
  rfl
set_option maxRecDepth 100000 in
set_option maxHeartbeats 4000000 in
theorem groupHas (b N : Nat) (S : List Ck) (c : Ck) (w : World) (h : OwnsC w b N S) :
    Calls Try.prog 35 #[.map (some b), .agg (cc c)] w fun e w' => e = .returned (.bool (decide (c ∈ S))) ∧ Below w.heap.size w w' := by
  obtain ⟨n, k, h1, h2, h3⟩ := h
  have hr : decide (c ∈ S) = Maps.has (setC k) (ck c) := by rw [setC_has]; exact decide_eq_decide.2 (h2 c).symm
  rw [hr]
  obtain ⟨W0, hW0⟩ : ∃ W0, W0 = w.alloc (.cells (cc c) 32) := ⟨_, rfl⟩
  have HB : Hid (Below w.heap.size w W0) := by rw [hW0]; exact below1
  have HO : Hid (W0.ownsMap Try.prog 32 (unitElem (H := Unit)) b n (setC k)) := ownsMap_keep HB.out h3
  have z0 : ldA W0 (.pointer (some ⟨w.heap.size, 0, none⟩)) 33 = some (cc c) := by rw [hW0]; exact (ck_v (heap_alloc_last w _)).a
  have HW := Lib.hid hW0
  obtain ⟨D, hD⟩ : ∃ D, D = setC k := ⟨_, rfl⟩
  rw [← hD] at HO ⊢
  clear hW0 h1 h2 h3 hr hD
  go_enter Try.func35, Try.ntmps35
  go_upto_region 1 with fail
  rw [← HW.out]
  go_wp2_with (at_lookup; refine wpList_lookup_own_unit _ rfl _ _ 60 rfl 32 96 keyed_cc Try.underlying60 (zeroUnitC _) b n D rfl HO.out _ _ rfl (key_cc c) ?_)
  go_ret
  exact ⟨rfl, belowT HB.out below1⟩
theorem enters_groupHas : ∀ args w, (callFunc 35 args).run Try.prog w = .ok (.enter 35 args) w := entersE Try.func35 (by kernel_rfl) (by kernel_rfl)
set_option maxRecDepth 100000 in
set_option maxHeartbeats 4000000 in
theorem groupPut (b N : Nat) (S : List Ck) (c : Ck) (w : World) (h : OwnsC w b N S) (hN : N ≤ 10000) :
    Calls Try.prog 36 #[.map (some b), .agg (cc c)] w fun e w' => (∃ v, e = .returned v) ∧ OwnsC w' b (N + 1) (S ++ [c]) ∧ w.grownBy w' (some b) := by
  obtain ⟨n, k, h1, h2, h3⟩ := h
  have HE : Hid (∀ w', w'.ownsMap Try.prog 32 (unitElem (H := Unit)) b (n + 1) ((setC k).put (ck c) (.agg [])) → OwnsC w' b (N + 1) (S ++ [c])) := fun w' g => ⟨n + 1, c :: k, by omega, fun d => by rw [List.mem_cons, List.mem_append, List.mem_singleton, h2 d]; exact Or.comm, g⟩
  have HN : Hid (n ≤ 10000) := by show n ≤ 10000; omega
  have HO := Lib.hid h3
  obtain ⟨D, hD⟩ : ∃ D, D = setC k := ⟨_, rfl⟩
  rw [← hD] at HO HE
  clear h1 h2 h3 hD
  go_enter Try.func36, Try.ntmps36
  go_wp2_with (at_mapUpdate; refine wpList_mapUpdate_own _ rfl _ _ _ 60 rfl 32 96 keyed_cc Try.underlying60 (unitElem (H := Unit)) b n _ rfl (HO.out.alloc _) (by unfold maxLen; have := HN.out; omega) _ _ _ rfl rfl (key_cc c) _ [] unitElem_mk ?_; intro w1 hown1 hgrow1)
  go_end0
  exact ⟨⟨_, rfl⟩, HE.out _ hown1, grown_afterC below1 hgrow1⟩
theorem enters_groupPut : ∀ args w, (callFunc 36 args).run Try.prog w = .ok (.enter 36 args) w := entersE Try.func36 (by kernel_rfl) (by kernel_rfl)
set_option maxRecDepth 100000 in
set_option maxHeartbeats 8000000 in
theorem groupOf_n (p : Option Addr) (n cp : Nat) (l : List Ck) (w : World) (h : SlE Ecc w (.slice p n cp) l) (hl : l.length = n) (hn : n ≤ 1000) :
    Calls Try.prog 34 #[.slice p n cp] w fun e w' => e = .returned (.map (some w.heap.size)) ∧ OwnsC w' w.heap.size n l ∧ Below w.heap.size w w' := by
  have hmm := run_makeMapC (P := Try.prog) Try.underlying60
  have K := Lib.hid h
  have HL := Lib.hid hl
  have HN := Lib.hid hn
  clear h hl hn
  go_enter Try.func34, Try.ntmps34
  go_wp2_with fail
  go_loopw [11] (fun i wr => ∃ j : Nat, j ≤ n ∧ i = .int .i64 (j : Int) ∧ OwnsC wr w.heap.size j (l.take j) ∧ Below w.heap.size w wr) (fun i _ => n - (intOf i).toNat)
  case atStart => exact ⟨0, Nat.zero_le _, rfl, ownsC_made _, below1⟩
  case round =>
    obtain ⟨j, hj, rfl, hown, hb⟩ := hrel
    have HO := Lib.hid hown
    have HBB := Lib.hid hb
    clear hown hb
    by_cases hlt : j < n
    · have i0 : (0 : Int) ≤ (j : Int) := by omega
      have i1 : (j : Int) < (n : Int) := by omega
      have d0 : decide ((j : Int) < (n : Int)) = true := decide_eq_true i1
      have d0' : decide (j < n) = true := decide_eq_true hlt
      have u1 : (j : Int) + 1 < 10000 := by have := HN.out; omega
      have HLT := Lib.hid hlt
      obtain ⟨b1, o1, rfl, q1, x1⟩ := ccs_ptr K.out (by have := HL.out; omega)
      have y1 := Go.Proofs.Ytlhnjaeocoafnaa.keep HBB.out (ccs_ld x1 (i := j) (by have := HL.out; omega))
      have HS : Hid (l.take (j + 1) = l.take j ++ [ckAt l j]) := by
        show _ = _
        rw [ckAt_in (by have := HL.out; omega), List.take_add_one, List.getElem?_eq_getElem (by have := HL.out; omega)]
        rfl
      generalize ckAt l j = C at *
      have HPt := Lib.hid (fun W (g : Below wr.heap.size wr W) => groupPut w.heap.size j (l.take j) C W (HO.out.keep g) (by have := HN.out; have := HLT.out; omega))
      clear x1 q1 hlt hj
      go_wp2_with fail
      refine (HPt.out _ below1).mono ?_
      rintro e w2 ⟨⟨v, rfl⟩, hown, hg⟩
      rw [← HS.out] at hown
      have HO2 := Lib.hid hown
      have HB2 : Hid (Below w.heap.size w w2) := (belowT HBB.out below1).grown hg (by simp; have := HO.out.lt; omega) (fun k hk => by cases hk; exact Nat.le_refl _)
      clear hown hg
      go_wp2_with fail
      go_roundw
      case rel => exact ⟨j + 1, HLT.out, by go_num, HO2.out, HB2.out⟩
      case measure => simp [intOf]; have := HLT.out; omega
    · obtain rfl : j = n := by omega
      have d0 : decide ((j : Int) < (j : Int)) = false := decide_eq_false (Int.lt_irrefl _)
      have d0' : decide (j < j) = false := decide_eq_false (Nat.lt_irrefl _)
      have HF : Hid (OwnsC wr w.heap.size j l) := by
        have := HO.out
        rwa [List.take_of_length_le (by rw [HL.out]; exact Nat.le_refl _)] at this
      clear hlt
      go_wp2_with fail
      go_ret
      exact ⟨rfl, HF.out, HBB.out⟩
theorem groupOf (v : Value) (l : List Ck) (w : World) (h : SlE Ecc w v l) (hn : l.length ≤ 1000) :
    Calls Try.prog 34 #[v] w fun e w' => e = .returned (.map (some w.heap.size)) ∧ OwnsC w' w.heap.size l.length l ∧ Below w.heap.size w w' := by
  have k := h
  obtain ⟨p, cp, rfl, _⟩ := slE_shape h
  exact groupOf_n p _ cp l w k rfl hn
theorem enters_groupOf : ∀ args w, (callFunc 34 args).run Try.prog w = .ok (.enter 34 args) w := entersE Try.func34 (by kernel_rfl) (by kernel_rfl)
end Go.Proofs.Ytlhnjaeocoafnaa
namespace Go.Proofs.Ytlhnjaeocoafnaa
open Go.RowKit Go.Shelf
set_option maxRecDepth 100000

/-- Nothing has turned that lay there, but for some blocks. -/
structure Tn (bs : Nat → Prop) (W W' : World) : Prop where
  os : W'.os = W.os
  tape : W'.tape = W.tape
  output : W'.output = W.output
  size : W.heap.size ≤ W'.heap.size
  block : ∀ k, k < W.heap.size → ¬ bs k → W'.heap[k]? = W.heap[k]?
section
variable {bs : Nat → Prop} {W W' W'' : World}
theorem Tn.refl (bs : Nat → Prop) (W : World) : Tn bs W W := ⟨rfl, rfl, rfl, Nat.le_refl _, fun _ _ _ => rfl⟩
theorem Tn.trans (h : Tn bs W W') (k : Tn bs W' W'') : Tn bs W W'' :=
  ⟨k.os.trans h.os, k.tape.trans h.tape, k.output.trans h.output, Nat.le_trans h.size k.size, fun b hb hn => (k.block b (Nat.lt_of_lt_of_le hb h.size) hn).trans (h.block b hb hn)⟩
theorem Tn.of_below (bs : Nat → Prop) (h : Below W.heap.size W W') : Tn bs W W' := ⟨h.os, h.tape, h.output, h.size, fun k hk _ => h.block k hk⟩
theorem Tn.of_grown {row : Option Nat} (h : W.grownBy W' row) (hr : ∀ k, row = some k → bs k) : Tn bs W W' := ⟨h.os, h.tape, h.output, h.size, fun k hk hn => h.block k hk fun e => hn (hr k e.symm)⟩
theorem Tn.alloc (bs : Nat → Prop) (W : World) (o : Obj) : Tn bs W (W.alloc o) := Tn.of_below bs ((Below.refl _ _).alloc (Nat.le_refl _) o)
theorem Tn.setCell (W : World) {b : Nat} (o : Nat) (v : Value) (hb : bs b) : Tn bs W (W.setCell ⟨b, o, none⟩ v) := by
  have h := (Below.refl b W).setCell (p := ⟨b, o, none⟩) (Nat.le_refl _) v
  exact ⟨h.os, h.tape, h.output, h.size, fun k _ hn => Below.heap_setCell _ _ _ _ (fun e => hn (by rw [e]; exact hb))⟩
theorem Tn.drew (bs : Nat → Prop) (W : World) (n : Nat) : Tn bs W (W.drewN n) := ⟨rfl, rfl, rfl, Nat.le_refl _, fun _ _ _ => rfl⟩
theorem Tn.heap (h : Tn bs W W') {k : Nat} {o : Obj} (hk : W.heap[k]? = some o) (hn : ¬ bs k) : W'.heap[k]? = some o := (h.block k (Array.getElem?_eq_some_iff.1 hk).1 hn).trans hk
theorem Tn.below (h : Tn bs W W') {B : Nat} {w : World} (g : Below B w W) (hB : ∀ k, bs k → B ≤ k) (hs : B ≤ W.heap.size) : Below B w W' :=
  ⟨h.os.trans g.os, h.tape.trans g.tape, h.output.trans g.output, Nat.le_trans g.size h.size, fun k hk => (h.block k (by omega) (fun e => by have := hB k e; omega)).trans (g.block k hk)⟩
theorem Tn.own {α : Type} {E : Lie α} {base : Nat} {v : Value} {l : List α} (h : Tn bs W W') (ho : OwnE E W base v l) (hn : ∀ k, v.ownBlock = some k → ¬ bs k) : OwnE E W' base v l :=
  ownE_block ho fun b hb hk => h.block b hb (hn b hk)
theorem Tn.slice {α : Type} {E : Lie α} {v : Value} {l : List α} (h : Tn bs W W') (ho : SlE E W v l) (hn : ∀ k, v.ownBlock = some k → ¬ bs k) : SlE E W' v l :=
  slE_block ho h.size fun b hb hk => h.block b hb (hn b hk)
theorem Tn.map {H : Type} {P : Program} {k : TypeId} {R : Value → Option (DataW H × List MemPlace)} {b n : Nat} {D : DataW H} (h : Tn bs W W') (ho : W.ownsMap P k R b n D) (hn : ¬ bs b) : W'.ownsMap P k R b n D := by
  obtain ⟨es, clock, hb, F, hl, hD⟩ := ho
  exact ⟨es, clock, h.heap hb hn, F, hl, hD⟩
/-- A row of the call's own is cells. -/
theorem own_cells {α : Type} {E : Lie α} {base : Nat} {v : Value} {l : List α} (ho : OwnE E W base v l) {k : Nat} {o : Obj} (hk : v.ownBlock = some k) (hb : W.heap[k]? = some o) : o.isCells = true := by
  rcases ho.2 with ⟨rfl, _⟩ | ⟨g, cap, cur, rfl, _, hg, _⟩
  · cases hk
  · have e : g = k := by injection hk
    subst e
    rw [hg] at hb
    cases hb
    rfl
/-- What abides the turn of blocks from number B on that are no cells. -/
theorem ownFrom_tn {α : Type} {B : Nat} {I : α → World → Prop} (h : ∀ s W W' (bs : Nat → Prop), I s W → Tn bs W W' → (∀ k, bs k → B ≤ k ∧ ∃ o, W.heap[k]? = some o ∧ o.isCells = false) → I s W') : OwnFrom B I := by
  intro s W W' row hs hg hr
  refine h s W W' (fun k => row = some k) hs (Tn.of_grown hg fun k e => e) fun k e => ?_
  obtain ⟨h1, h2⟩ := hr k e
  exact ⟨h1, h2⟩
theorem keepsFrom_tn {B : Nat} (h : Tn bs W W') (hb : ∀ k, bs k → k < B ∨ ∀ o, W.heap[k]? = some o → o.isCells = true) : KeepsFrom B W W' :=
  ⟨h.size, fun k o hB hk ho => h.heap hk fun e => by
    rcases hb k e with h1 | h1
    · omega
    · rw [h1 o hk] at ho; cases ho⟩
end

theorem Tn.mono {bs cs : Nat → Prop} {W W' : World} (h : Tn bs W W') (k : ∀ b, bs b → cs b) : Tn cs W W' := ⟨h.os, h.tape, h.output, h.size, fun b hb hn => h.block b hb fun e => hn (k b e)⟩
theorem not_frozen {W : World} {g : Nat} {c : Array Value} {t : TypeId} (h : W.heap[g]? = some (.cells c t (0, 0))) (o : Nat) : W.frozen? ⟨g, o, none⟩ = false := by
  unfold World.frozen?
  simp [h]
theorem heap_put' {w : World} {g : Nat} {c r : Array Value} {t : TypeId} (hg : w.heap[g]? = some (.cells c t (0, 0))) (h : r.size = c.size) : (stA w (.pointer (some ⟨g, 0, none⟩)) (.agg r)).heap[g]? = some (.cells r t (0, 0)) := by
  rw [heap_stA_same hg (by omega)]
  congr 2
  apply Array.toList_inj.1
  unfold putSeg
  simp only [List.take_zero, List.nil_append, Nat.zero_add]
  rw [List.drop_of_length_le (by rw [Array.length_toList]; omega), List.append_nil]

/-! ### Marks -/
def mkD (D : Nat) : Deferred := { target := .collected D, args := #[] }
/-- The way out behind as many ranges over functions: each mark's block is shut. -/
theorem leave_Ms {F : Fence} {n : Nat} {P : Program} {fn : Func} {tmps : Array Value} {R : Ending → World → Prop} : ∀ (ds : List Nat) (W : World), ds.Nodup → (∀ D ∈ ds, W.heap[D]? = some (.deferred (some []))) →
    (∀ W', Tn (· ∈ ds) W W' → ∃ v, (results fn tmps).run P W' = .ok v W' ∧ R (.returned v) W') → LeavesInM F n P fn tmps R (ds.map mkD) .returning W
  | [], W, _, _, h => h W (Tn.refl _ _)
  | D :: ds, W, hd, hK, h => by
    have hKD := hK D List.mem_cons_self
    rw [List.nodup_cons] at hd
    have ht : Tn (· = D) W (W.putObj D (.deferred none)) := Tn.of_grown (grownBy_putObj' W D (.deferred none)) (fun k e => by cases e; rfl)
    refine ⟨by simp, .inl ⟨D, _, rfl, run_takeDeferred hKD, ?_⟩⟩
    refine leave_Ms ds _ hd.2 (fun E hE => ht.heap (hK E (List.mem_cons_of_mem _ hE)) (fun e => hd.1 (by rw [← e]; exact hE))) fun W' hW' => ?_
    refine h W' ?_
    have t1 : Tn (· ∈ D :: ds) W (W.putObj D (.deferred none)) := ⟨ht.os, ht.tape, ht.output, ht.size, fun k hk hn => ht.block k hk (fun e => hn (by rw [e]; exact List.mem_cons_self))⟩
    have t2 : Tn (· ∈ D :: ds) (W.putObj D (.deferred none)) W' := ⟨hW'.os, hW'.tape, hW'.output, hW'.size, fun k hk hn => hW'.block k hk (fun e => hn (List.mem_cons_of_mem _ e))⟩
    exact t1.trans t2

/-! ### Laws at operations -/
section
variable {P : Program} {ops : Array Oper} {rest : List Oper} {o : Oper} {a : Act} {Q : Exit → Act → World → Prop}
/-- 'T{k: v}': an entry of a map's literal. -/
theorem wpList_insert_own {H : Type} (w : World) (hg : o.guard = none) (m x v : Operand) (t : TypeId) (hop : o.op = Op.insert t m x v)
    (k e : TypeId) (K : Go.Maps.Keyed P k) (ht : P.underlying t = some (.map k e)) (R : Value → Option (DataW H × List MemPlace)) (b n : Nat) (D : DataW H)
    (hm : a.eval m = .map (some b)) (hown : w.ownsMap P k R b n D) (hn : n < maxLen) (key val : Value) (kl : Lit) (hx : a.eval x = key) (hv : a.eval v = val) (hkey : keyOf P k key = some kl)
    (d : DataW H) (ps : List MemPlace) (hval : R val = some (d, ps))
    (hK : ∀ w', w'.ownsMap P k R b (n + 1) (D.put kl d) → w.grownBy w' (some b) → wpList P ops Q rest (a.put o.dst undef) w') :
    wpList P ops Q (o :: rest) a w := by
  refine wpList_plain hg fun K' hK' => ?_
  obtain ⟨w', hrun, r1, r2⟩ := hown.update K ht hn hkey hval
  unfold Oper.wp
  simp [execOp, hop, hm, hx, hv, hrun, Result.andThen]
  exact hK' _ _ (hK w' r1 r2)
/-- append in a round. -/
theorem wpListIn_append_B {F : Fence} {nF : Nat} {α : Type} {E : Lie α} {T : TypeId} {bytes : Nat} (K : KnownB P E T bytes) (w : World) (hgd : o.guard = none) (s x : Operand)
    (ho : o.op = .call { callee := .builtin .append, args := #[s, x], argTypes := #[T, T] })
    (base : Nat) (v : Value) (k : List α) (hs : a.eval s = v) (hown : OwnE E w base v k) (vx : Value) (l : List α) (hx : a.eval x = vx) (hsl : SlE E w vx l)
    (hlen : k.length + l.length ≤ maxLen) (hb : (k.length + l.length) * bytes ≤ 140737488355328) (hbase : base ≤ w.heap.size)
    (h : ∀ v' w', OwnE E w' base v' (k ++ l) → Gr w v w' v' → wpListIn F nF P ops Q rest (a.put o.dst v') w') : wpListIn F nF P ops Q (o :: rest) a w := by
  refine wpListIn_plain hgd fun K' hK' => ?_
  obtain ⟨v', w', hr, h2, h3⟩ := run_append_B K w o.type base v k hown vx l hsl hlen hb hbase
  unfold Oper.wpIn
  refine ⟨?_, ?_⟩
  · simp [Oper.about, ho, resolve, Target.leads, Sem.run_pure]
  · rw [Oper.semAt_plain F _ _ (by rw [ho]; intro c hc'; cases hc')]
    simp [execOp, ho, resolve, invoke, builtin, hs, hx, hr, Result.andThen]
    exact hK' _ _ (h v' w' h2 h3)
end
end Go.Proofs.Ytlhnjaeocoafnaa
