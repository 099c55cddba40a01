/-
  An append onto a row of the call's own as one step of a region that draws its order, walked in the text's order (XLex); reads below a block's number; for every program.
-/
import Derived.Test.YtanoijcgkacnmaaEl
import Derived.Test.YtanoijcgkacnmaaLex
namespace Go.Proofs.Ytanoijcgkacnmaa
open Go.RowKit
section
variable {P : Program} {ops : Array Oper} {E : List Nat} {L : World → World → Prop} {W : World} {Q : Exit → Act → World → Prop} {α : Type} {F : Lie α}
theorem wpXL_appendE {T : TypeId} (K : Known P F T) {k : Nat} {o : Oper} {rest : List Oper} {a : Act} {w : World} {σ : List (Nat × World)} (hE : E.contains k = true) (hgd : o.guard = none) (s x : Operand)
    (ho : o.op = .call { callee := .builtin .append, args := #[s, x], argTypes := #[T, T] })
    (base : Nat) (v : Value) (j : List α) (hs : a.eval s = v) (hown : OwnE F w base v j) (vx : Value) (l : List α) (hx : a.eval x = vx) (hsl : SlE F w vx l)
    (hlen : j.length + l.length ≤ 1000000) (hbase : base ≤ w.heap.size) (hl : ∀ v' w', Gr w v w' v' → L w w')
    (h : ∀ v' w', OwnE F w' base v' (j ++ l) → Gr w v w' v' → wpXL L P ops E W Q (k + 1) rest (a.put o.dst v') w' ((k, w') :: σ)) : wpXL L P ops E W Q k (o :: rest) a w σ := by
  obtain ⟨v', w', hr, h2, h3⟩ := run_append_E K w o.type base v j hown vx l hsl hlen hbase
  refine wpXL_eff hE (by simp [Region.wanted, hgd]) v' w' ?_ (hl v' w' h3) (h v' w' h2 h3)
  unfold execOp
  simp only [ho, resolve, invoke, builtin, Sem.run_bind, Sem.run_pure, Result.andThen_ok, List.map_toArray, List.map_cons, List.map_nil, hs, hx, hr]
end
theorem ldA_wdB' {B : Nat} {W : World} {b o n : Nat} {c : Array Value} (h : ldA W (.pointer (some ⟨b, o, none⟩)) n = some c) (hb : b < B) (p : WdB B W) : ldA p.w (.pointer (some ⟨b, o, none⟩)) n = some c := (ldA_below p.h b o n hb).trans h
theorem cell_wdB' {B : Nat} {W : World} {b o : Nat} {c : Value} (h : W.cell? ⟨b, o, none⟩ = some c) (hb : b < B) (p : WdB B W) : p.w.cell? ⟨b, o, none⟩ = some c := (p.h.cell (p := ⟨b, o, none⟩) hb).trans h
end Go.Proofs.Ytanoijcgkacnmaa
