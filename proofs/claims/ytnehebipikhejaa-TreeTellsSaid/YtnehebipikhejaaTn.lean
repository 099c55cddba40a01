/-
  What has turned, block by block; a way out behind many ranges over functions; for every program.
-/
import Derived.Test.YtnehebipikhejaaLeave
import Derived.Test.YtnehebipikhejaaLexA
import Derived.Maps.OwnIn
namespace Go.Proofs.Ytnehebipikhejaa
open Go.RowKit Go.Shelf

/-- Nothing has turned that lay there, but for some blocks. -/
structure Tn (bs : Nat → Prop) (W W' : World) : Prop where
  os : W'.os = W.os
  tape : W'.tape = W.tape
  output : W'.output = W.output
  size : W.heap.size ≤ W'.heap.size
  block : ∀ k, k < W.heap.size → ¬ bs k → W'.heap[k]? = W.heap[k]?
section
variable {bs : Nat → Prop} {W W' W'' : World}
theorem Tn.refl (bs : Nat → Prop) (W : World) : Tn bs W W := ⟨rfl, rfl, rfl, Nat.le_refl _, fun _ _ _ => rfl⟩
theorem Tn.trans (h : Tn bs W W') (k : Tn bs W' W'') : Tn bs W W'' :=
  ⟨k.os.trans h.os, k.tape.trans h.tape, k.output.trans h.output, Nat.le_trans h.size k.size, fun b hb hn => (k.block b (Nat.lt_of_lt_of_le hb h.size) hn).trans (h.block b hb hn)⟩
theorem Tn.of_below (bs : Nat → Prop) (h : Below W.heap.size W W') : Tn bs W W' := ⟨h.os, h.tape, h.output, h.size, fun k hk _ => h.block k hk⟩
theorem Tn.of_grown {row : Option Nat} (h : W.grownBy W' row) (hr : ∀ k, row = some k → bs k) : Tn bs W W' := ⟨h.os, h.tape, h.output, h.size, fun k hk hn => h.block k hk fun e => hn (hr k e.symm)⟩
theorem Tn.alloc (bs : Nat → Prop) (W : World) (o : Obj) : Tn bs W (W.alloc o) := Tn.of_below bs ((Below.refl _ _).alloc (Nat.le_refl _) o)
theorem Tn.setCell (W : World) {b : Nat} (o : Nat) (v : Value) (hb : bs b) : Tn bs W (W.setCell ⟨b, o, none⟩ v) := by
  have h := (Below.refl b W).setCell (p := ⟨b, o, none⟩) (Nat.le_refl _) v
  exact ⟨h.os, h.tape, h.output, h.size, fun k _ hn => Below.heap_setCell _ _ _ _ (fun e => hn (by rw [e]; exact hb))⟩
theorem Tn.drew (bs : Nat → Prop) (W : World) (n : Nat) : Tn bs W (W.drewN n) := ⟨rfl, rfl, rfl, Nat.le_refl _, fun _ _ _ => rfl⟩
theorem Tn.heap (h : Tn bs W W') {k : Nat} {o : Obj} (hk : W.heap[k]? = some o) (hn : ¬ bs k) : W'.heap[k]? = some o := (h.block k (Array.getElem?_eq_some_iff.1 hk).1 hn).trans hk
theorem Tn.below (h : Tn bs W W') {B : Nat} {w : World} (g : Below B w W) (hB : ∀ k, bs k → B ≤ k) (hs : B ≤ W.heap.size) : Below B w W' :=
  ⟨h.os.trans g.os, h.tape.trans g.tape, h.output.trans g.output, Nat.le_trans g.size h.size, fun k hk => (h.block k (by omega) (fun e => by have := hB k e; omega)).trans (g.block k hk)⟩
theorem Tn.own {α : Type} {E : Lie α} {base : Nat} {v : Value} {l : List α} (h : Tn bs W W') (ho : OwnE E W base v l) (hn : ∀ k, v.ownBlock = some k → ¬ bs k) : OwnE E W' base v l :=
  ownE_block ho fun b hb hk => h.block b hb (hn b hk)
theorem Tn.slice {α : Type} {E : Lie α} {v : Value} {l : List α} (h : Tn bs W W') (ho : SlE E W v l) (hn : ∀ k, v.ownBlock = some k → ¬ bs k) : SlE E W' v l :=
  slE_block ho h.size fun b hb hk => h.block b hb (hn b hk)
theorem Tn.map {H : Type} {P : Program} {k : TypeId} {R : Value → Option (DataW H × List MemPlace)} {b n : Nat} {D : DataW H} (h : Tn bs W W') (ho : W.ownsMap P k R b n D) (hn : ¬ bs b) : W'.ownsMap P k R b n D := by
  obtain ⟨es, clock, hb, F, hl, hD⟩ := ho
  exact ⟨es, clock, h.heap hb hn, F, hl, hD⟩
/-- A row of the call's own is cells. -/
theorem own_cells {α : Type} {E : Lie α} {base : Nat} {v : Value} {l : List α} (ho : OwnE E W base v l) {k : Nat} {o : Obj} (hk : v.ownBlock = some k) (hb : W.heap[k]? = some o) : o.isCells = true := by
  rcases ho.2 with ⟨rfl, _⟩ | ⟨g, cap, cur, rfl, _, hg, _⟩
  · cases hk
  · have e : g = k := by injection hk
    subst e
    rw [hg] at hb
    cases hb
    rfl
/-- What abides the turn of blocks from number B on that are no cells. -/
theorem ownFrom_tn {α : Type} {B : Nat} {I : α → World → Prop} (h : ∀ s W W' (bs : Nat → Prop), I s W → Tn bs W W' → (∀ k, bs k → B ≤ k ∧ ∃ o, W.heap[k]? = some o ∧ o.isCells = false) → I s W') : OwnFrom B I := by
  intro s W W' row hs hg hr
  refine h s W W' (fun k => row = some k) hs (Tn.of_grown hg fun k e => e) fun k e => ?_
  obtain ⟨h1, h2⟩ := hr k e
  exact ⟨h1, h2⟩
theorem keepsFrom_tn {B : Nat} (h : Tn bs W W') (hb : ∀ k, bs k → k < B ∨ ∀ o, W.heap[k]? = some o → o.isCells = true) : KeepsFrom B W W' :=
  ⟨h.size, fun k o hB hk ho => h.heap hk fun e => by
    rcases hb k e with h1 | h1
    · omega
    · rw [h1 o hk] at ho; cases ho⟩
end

theorem Tn.mono {bs cs : Nat → Prop} {W W' : World} (h : Tn bs W W') (k : ∀ b, bs b → cs b) : Tn cs W W' := ⟨h.os, h.tape, h.output, h.size, fun b hb hn => h.block b hb fun e => hn (k b e)⟩
theorem not_frozen {W : World} {g : Nat} {c : Array Value} {t : TypeId} (h : W.heap[g]? = some (.cells c t (0, 0))) (o : Nat) : W.frozen? ⟨g, o, none⟩ = false := by
  unfold World.frozen?
  simp [h]
theorem heap_put' {w : World} {g : Nat} {c r : Array Value} {t : TypeId} (hg : w.heap[g]? = some (.cells c t (0, 0))) (h : r.size = c.size) : (stA w (.pointer (some ⟨g, 0, none⟩)) (.agg r)).heap[g]? = some (.cells r t (0, 0)) := by
  rw [heap_stA_same hg (by omega)]
  congr 2
  apply Array.toList_inj.1
  unfold putSeg
  simp only [List.take_zero, List.nil_append, Nat.zero_add]
  rw [List.drop_of_length_le (by rw [Array.length_toList]; omega), List.append_nil]

/-! ### Marks -/
def mkD (D : Nat) : Deferred := { target := .collected D, args := #[] }
/-- The way out behind as many ranges over functions: each mark's block is shut. -/
theorem leave_Ms {F : Fence} {n : Nat} {P : Program} {fn : Func} {tmps : Array Value} {R : Ending → World → Prop} : ∀ (ds : List Nat) (W : World), ds.Nodup → (∀ D ∈ ds, W.heap[D]? = some (.deferred (some []))) →
    (∀ W', Tn (· ∈ ds) W W' → ∃ v, (results fn tmps).run P W' = .ok v W' ∧ R (.returned v) W') → LeavesInM F n P fn tmps R (ds.map mkD) .returning W
  | [], W, _, _, h => h W (Tn.refl _ _)
  | D :: ds, W, hd, hK, h => by
    have hKD := hK D List.mem_cons_self
    rw [List.nodup_cons] at hd
    have ht : Tn (· = D) W (W.putObj D (.deferred none)) := Tn.of_grown (grownBy_putObj' W D (.deferred none)) (fun k e => by cases e; rfl)
    refine ⟨by simp, .inl ⟨D, _, rfl, run_takeDeferred hKD, ?_⟩⟩
    refine leave_Ms ds _ hd.2 (fun E hE => ht.heap (hK E (List.mem_cons_of_mem _ hE)) (fun e => hd.1 (by rw [← e]; exact hE))) fun W' hW' => ?_
    refine h W' ?_
    have t1 : Tn (· ∈ D :: ds) W (W.putObj D (.deferred none)) := ⟨ht.os, ht.tape, ht.output, ht.size, fun k hk hn => ht.block k hk (fun e => hn (by rw [e]; exact List.mem_cons_self))⟩
    have t2 : Tn (· ∈ D :: ds) (W.putObj D (.deferred none)) W' := ⟨hW'.os, hW'.tape, hW'.output, hW'.size, fun k hk hn => hW'.block k hk (fun e => hn (List.mem_cons_of_mem _ e))⟩
    exact t1.trans t2

/-! ### Laws at operations -/
section
variable {P : Program} {ops : Array Oper} {rest : List Oper} {o : Oper} {a : Act} {Q : Exit → Act → World → Prop}
/-- 'T{k: v}': an entry of a map's literal. -/
theorem wpList_insert_own {H : Type} (w : World) (hg : o.guard = none) (m x v : Operand) (t : TypeId) (hop : o.op = Op.insert t m x v)
    (k e : TypeId) (K : Go.Maps.Keyed P k) (ht : P.underlying t = some (.map k e)) (R : Value → Option (DataW H × List MemPlace)) (b n : Nat) (D : DataW H)
    (hm : a.eval m = .map (some b)) (hown : w.ownsMap P k R b n D) (hn : n < maxLen) (key val : Value) (kl : Lit) (hx : a.eval x = key) (hv : a.eval v = val) (hkey : keyOf P k key = some kl)
    (d : DataW H) (ps : List MemPlace) (hval : R val = some (d, ps))
    (hK : ∀ w', w'.ownsMap P k R b (n + 1) (D.put kl d) → w.grownBy w' (some b) → wpList P ops Q rest (a.put o.dst undef) w') :
    wpList P ops Q (o :: rest) a w := by
  refine wpList_plain hg fun K' hK' => ?_
  obtain ⟨w', hrun, r1, r2⟩ := hown.update K ht hn hkey hval
  unfold Oper.wp
  simp [execOp, hop, hm, hx, hv, hrun, Result.andThen]
  exact hK' _ _ (hK w' r1 r2)
/-- append in a round. -/
theorem wpListIn_append_B {F : Fence} {nF : Nat} {α : Type} {E : Lie α} {T : TypeId} {bytes : Nat} (K : KnownB P E T bytes) (w : World) (hgd : o.guard = none) (s x : Operand)
    (ho : o.op = .call { callee := .builtin .append, args := #[s, x], argTypes := #[T, T] })
    (base : Nat) (v : Value) (k : List α) (hs : a.eval s = v) (hown : OwnE E w base v k) (vx : Value) (l : List α) (hx : a.eval x = vx) (hsl : SlE E w vx l)
    (hlen : k.length + l.length ≤ maxLen) (hb : (k.length + l.length) * bytes ≤ 140737488355328) (hbase : base ≤ w.heap.size)
    (h : ∀ v' w', OwnE E w' base v' (k ++ l) → Gr w v w' v' → wpListIn F nF P ops Q rest (a.put o.dst v') w') : wpListIn F nF P ops Q (o :: rest) a w := by
  refine wpListIn_plain hgd fun K' hK' => ?_
  obtain ⟨v', w', hr, h2, h3⟩ := run_append_B K w o.type base v k hown vx l hsl hlen hb hbase
  unfold Oper.wpIn
  refine ⟨?_, ?_⟩
  · simp [Oper.about, ho, resolve, Target.leads, Sem.run_pure]
  · rw [Oper.semAt_plain F _ _ (by rw [ho]; intro c hc'; cases hc')]
    simp [execOp, ho, resolve, invoke, builtin, hs, hx, hr, Result.andThen]
    exact hK' _ _ (h v' w' h2 h3)
end
end Go.Proofs.Ytnehebipikhejaa
