/-
  append onto a row of the call's own, of as many elements as memory holds; for every program.
-/
import Derived.Test.YtljehgohcchocaaEl
namespace Go.Proofs.Ytljehgohcchocaa
open Go.RowKit
set_option maxRecDepth 100000
section
variable {α : Type} {E : Lie α} {P : Program}
/-- What the program knows of the element's type, its bytes told. -/
structure KnownB (P : Program) (E : Lie α) (T : TypeId) (bytes : Nat) : Prop where
  slice : P.underlying T = some (.slice E.t)
  info : ∃ z : Value, (P.info? E.t).map (fun i => (i.zero, i.size, i.bytes)) = some (some z, E.n, bytes) ∧ z.cells.size = E.n
theorem run_append_B {T : TypeId} {bytes : Nat} (K : KnownB P E T bytes) (w : World) (ty : TypeId) (base : Nat) (v : Value) (k : List α) (hown : OwnE E w base v k) (vx : Value) (l : List α) (hsl : SlE E w vx l) (hlen : k.length + l.length ≤ maxLen) (hb : (k.length + l.length) * bytes ≤ 140737488355328) (hbase : base ≤ w.heap.size) :
    ∃ v' w', (Builtin.append_ #[T, T] ty #[v, vx]).run P w = .ok v' w' ∧ OwnE E w' base v' (k ++ l) ∧ Gr w v w' v' := by
  obtain ⟨z, hinf, hzs⟩ := K.info
  obtain ⟨i, hi, hz0, hz1, hz2⟩ := info_parts hinf
  by_cases hn : l = []
  · subst hn
    obtain ⟨p, cap, rfl, _⟩ := hsl
    exact ⟨v, w, run_append_noneE (P := P) (w := w) base T ty E.t i E.n K.slice hi v k.length _ hown p cap, by simpa using hown, Gr.refl _ _⟩
  · obtain ⟨b, off, cap, rfl, _, _, hc⟩ := slE_ne hsl (List.length_pos_iff.2 hn)
    obtain ⟨v', w', h1, h2, h3, _, h5⟩ := run_append_own_at (P := P) w base T ty E.t i z E.n bytes K.slice hi hz0 hz1 hz2 hzs E.pos v k.length (cellsE E k) hown ⟨b, off, none⟩ l.length cap (cellsE E l) (cellsE_length E l) (range_cells hc) (cellsE_one E l) hlen hb hbase
    refine ⟨v', w', h1, ?_, h3, h5.imp id fun e q hq => ?_⟩
    · unfold OwnE; rw [List.length_append, cellsE_append]; exact h2
    · rw [e] at hq; injection hq with hq; omega
theorem wpList_append_B {T : TypeId} {bytes : Nat} (K : KnownB P E T bytes) (w : World) {ops : Array Oper} {rest : List Oper} {o : Oper} {a : Act} {Q : Exit → Act → World → Prop} (hgd : o.guard = none) (s x : Operand)
    (ho : o.op = .call { callee := .builtin .append, args := #[s, x], argTypes := #[T, T] })
    (base : Nat) (v : Value) (k : List α) (hs : a.eval s = v) (hown : OwnE E w base v k) (vx : Value) (l : List α) (hx : a.eval x = vx) (hsl : SlE E w vx l)
    (hlen : k.length + l.length ≤ maxLen) (hb : (k.length + l.length) * bytes ≤ 140737488355328) (hbase : base ≤ w.heap.size)
    (h : ∀ v' w', OwnE E w' base v' (k ++ l) → Gr w v w' v' → wpList P ops Q rest (a.put o.dst v') w') : wpList P ops Q (o :: rest) a w :=
  wpList_plain hgd fun K' hK => by
    obtain ⟨v', w', hr, h2, h3⟩ := run_append_B K w o.type base v k hown vx l hsl hlen hb hbase
    unfold Oper.wp execOp
    simp only [ho, resolve, invoke, builtin, Sem.run_bind, Sem.run_pure, Result.andThen_ok, List.map_toArray, List.map_cons, List.map_nil, hs, hx, hr]
    exact hK _ _ (h v' w' h2 h3)
end
end Go.Proofs.Ytljehgohcchocaa
