/-
  append, a store of one cell, parts read below a bound: steps of XLexT's walk; for every program.
-/
import Derived.Test.YtljehgohcchocaaLexT
import Derived.Test.YtljehgohcchocaaElBig
import Derived.Test.YtljehgohcchocaaSt
namespace Go.Proofs.Ytljehgohcchocaa
open Go.RowKit
set_option maxRecDepth 100000
section
variable {P : Program} {ops : Array Oper} {E S1 : List Nat} {W : World} {Q : Exit → Act → World → Prop}
/-- append onto a row of the call's own, as one of the last operations. -/
theorem wpXT_append {α : Type} {Ea : Lie α} {T : TypeId} {bytes : Nat} (K : KnownB P Ea T bytes) {B k : Nat} {o : Oper} {rest : List Oper} {a : Act} {w : World} {σ : List (Nat × World)} (hE : E.contains k = true) (hgd : o.guard = none) (hS : waitsAll ops S1 o = true) (s x : Operand)
    (ho : o.op = .call { callee := .builtin .append, args := #[s, x], argTypes := #[T, T] })
    (base : Nat) (v : Value) (ks : List α) (hs : a.eval s = v) (hown : OwnE Ea w base v ks) (vx : Value) (l : List α) (hx : a.eval x = vx) (hsl : SlE Ea w vx l)
    (hlen : ks.length + l.length ≤ maxLen) (hb : (ks.length + l.length) * bytes ≤ 140737488355328) (hbase : base ≤ w.heap.size) (hB : B ≤ base)
    (h : ∀ v' w', OwnE Ea w' base v' (ks ++ l) → Gr w v w' v' → wpXT (La B) (Lb B) S1 P ops E W Q (k + 1) rest (a.put o.dst v') w' ((k, w') :: σ)) : wpXT (La B) (Lb B) S1 P ops E W Q k (o :: rest) a w σ := by
  obtain ⟨v', w', hr, h2, h3⟩ := run_append_B K w o.type base v ks hown vx l hsl hlen hb hbase
  refine wpXT_eff hE (by simp [Region.wanted, hgd]) v' w' ?_ (relE_tail hS ((h3.own hown hbase).mono hB)) (h v' w' h2 h3)
  unfold execOp
  simp only [ho, resolve, invoke, builtin, Sem.run_bind, Sem.run_pure, Result.andThen_ok, List.map_toArray, List.map_cons, List.map_nil, hs, hx, hr]
end
/-- Read below B, in a world of the class. -/
theorem wdB_ld {B : Nat} {w : World} {b o n : Nat} {c : Array Value} (h : ldA w (.pointer (some ⟨b, o, none⟩)) n = some c) (hb : b < B) (p : WdB B w.drew) : ldA p.w (.pointer (some ⟨b, o, none⟩)) n = some c :=
  (ldA_below p.h b o n hb).trans (by rw [ldA_drew]; exact h)
theorem wdB_cell {B : Nat} {w : World} {b o : Nat} {v : Value} (h : w.cell? ⟨b, o, none⟩ = some v) (hb : b < B) (p : WdB B w.drew) : p.w.cell? ⟨b, o, none⟩ = some v := (p.h.cell (p := ⟨b, o, none⟩) hb).trans h
theorem put_whole' {w : World} {b n : Nat} {c c' : Array Value} {t : TypeId} (hg : w.heap[b]? = some (.cells c t (0, 0))) (hn : c.size = n) (hn' : c'.size = n) : ldA (stA w (.pointer (some ⟨b, 0, none⟩)) (.agg c')) (.pointer (some ⟨b, 0, none⟩)) n = some c' :=
  ldA_stA_same (wrA_block hg hn) hn'
/-- A slice elsewhere than in a block that is stored into whole. -/
theorem slE_stA' {α : Type} {E : Lie α} {w : World} {v x : Value} {l : List α} {b : Nat} (h : SlE E w v l) (hb : v.ownBlock ≠ some b) : SlE E (stA w (.pointer (some ⟨b, 0, none⟩)) x) v l :=
  slE_block h (by rw [size_stA]; exact Nat.le_refl _) (fun k _ hk => heap_stA (fun e => hb (by rw [hk, e])))
theorem slE_set' {α : Type} {E : Lie α} {w : World} {v x : Value} {l : List α} {b o : Nat} (h : SlE E w v l) (hb : v.ownBlock ≠ some b) : SlE E (w.setCell ⟨b, o, none⟩ x) v l :=
  slE_block h (Nat.le_of_eq (by simp [World.setCell])) (fun k _ hk => by rw [Below.heap_setCell _ _ _ _ (fun e => hb (by rw [hk, e]))])
end Go.Proofs.Ytljehgohcchocaa
