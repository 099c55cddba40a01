/-
  Where links stand first, by their ends, plainly: what a map that is filled link by link holds.
  An append onto a row of the call's own as one step of a region that draws its order, walked in the text's order (XLex); reads below a block's number; for every program.
-/
import Derived.Test.YtkbifcfgcokmlaaQ24
import Derived.Test.YtkbifcfgcokmlaaQ10
import Derived.Test.YtkbifcfgcokmlaaQ03
import Derived.Test.YtkbifcfgcokmlaaQ02
namespace Go.Proofs.Ytkbifcfgcokmlaa
open Go.RowKit Go.Maps
set_option maxRecDepth 100000

def edOf (k : Lk) : Ed := ⟨k.s, k.t⟩
def edAt (l : List Lk) (i : Nat) : Ed := edOf (lkAt l i)
def iLk (i : Int) : DataW Unit := .lit (.int .i64 i)
def pcD (l : List Lk) : Nat → DataW Unit
  | 0 => .map []
  | k + 1 => if Maps.has (pcD l k) (ek (edAt l k)) = true then pcD l k else (pcD l k).put (ek (edAt l k)) (iLk k)
section
variable {l : List Lk}
theorem pcD_yes {k : Nat} (h : Maps.has (pcD l k) (ek (edAt l k)) = true) : pcD l (k + 1) = pcD l k := if_pos h
theorem pcD_no {k : Nat} (h : Maps.has (pcD l k) (ek (edAt l k)) = false) : pcD l (k + 1) = (pcD l k).put (ek (edAt l k)) (iLk k) := if_neg (by rw [h]; exact Bool.false_ne_true)
theorem pcD_tidy (l : List Lk) : ∀ k, Tidy (pcD l k)
  | 0 => tidy_empty
  | k + 1 => by
    unfold pcD
    split
    · exact pcD_tidy l k
    · exact (pcD_tidy l k).put (isKey_ek _) _
theorem pcD_has (l : List Lk) (r : Ed) : ∀ k, Maps.has (pcD l k) (ek r) = true ↔ ∃ i, i < k ∧ edAt l i = r
  | 0 => ⟨fun h => (by cases h), fun ⟨_, h, _⟩ => absurd h (Nat.not_lt_zero _)⟩
  | k + 1 => by
    have ih := pcD_has l r k
    by_cases hk : Maps.has (pcD l k) (ek (edAt l k)) = true
    · rw [pcD_yes hk, ih]
      constructor
      · rintro ⟨i, hi, e⟩; exact ⟨i, by omega, e⟩
      · rintro ⟨i, hi, e⟩
        by_cases hik : i = k
        · subst hik
          rw [e] at hk
          exact ih.1 hk
        · exact ⟨i, by omega, e⟩
    · rw [pcD_no (by simpa using hk)]
      by_cases e : edAt l k = r
      · rw [e, has_put_same (pcD_tidy l k).isMap (isKey_ek r)]
        exact ⟨fun _ => ⟨k, Nat.lt_succ_self k, e⟩, fun _ => rfl⟩
      · rw [has_put_other (fun h => e (ek_inj h).symm), ih]
        constructor
        · rintro ⟨i, hi, h⟩; exact ⟨i, by omega, h⟩
        · rintro ⟨i, hi, h⟩
          rcases Nat.lt_succ_iff_lt_or_eq.1 hi with h1 | rfl
          · exact ⟨i, h1, h⟩
          · exact absurd h e
theorem pcD_at {r : Ed} {i : Nat} (z : DataW Unit) (hr : edAt l i = r) (hf : ∀ j, j < i → edAt l j ≠ r) : ∀ k, i < k → (pcD l k).atKey (ek r) z = iLk i
  | 0, h => absurd h (Nat.not_lt_zero _)
  | k + 1, h => by
    by_cases e : i = k
    · subst e
      have hn : Maps.has (pcD l i) (ek (edAt l i)) = false := by
        rw [← Bool.not_eq_true, hr, pcD_has]
        rintro ⟨j, hj, e⟩
        exact hf j hj e
      rw [pcD_no hn, hr]
      exact atKey_put_same (pcD_tidy l i).isMap (isKey_ek r) _ _
    · have ih := pcD_at z hr hf k (by omega)
      by_cases hk : Maps.has (pcD l k) (ek (edAt l k)) = true
      · rw [pcD_yes hk]; exact ih
      · rw [pcD_no (by simpa using hk), atKey_put_other, ih]
        intro h2
        have e2 := ek_inj h2
        apply hk
        rw [pcD_has]
        exact ⟨i, by omega, hr.trans e2⟩
theorem pcD_size_le (l : List Lk) : ∀ k, Maps.size (pcD l k) ≤ k
  | 0 => Nat.le_refl _
  | k + 1 => by
    have ih := pcD_size_le l k
    by_cases hk : Maps.has (pcD l k) (ek (edAt l k)) = true
    · rw [pcD_yes hk]; omega
    · rw [pcD_no (by simpa using hk), size_put (pcD_tidy l k)]
      split <;> omega
/-- As many entries as links: just if no two are one. -/
theorem pcD_size (l : List Lk) : ∀ k, Maps.size (pcD l k) = k ↔ ∀ i, i < k → ∀ j, j < i → edAt l j ≠ edAt l i
  | 0 => ⟨fun _ i h => absurd h (Nat.not_lt_zero _), fun _ => rfl⟩
  | k + 1 => by
    have ih := pcD_size l k
    have hle := pcD_size_le l k
    by_cases hh : Maps.has (pcD l k) (ek (edAt l k)) = true
    · rw [pcD_yes hh]
      obtain ⟨i, hi, e⟩ := (pcD_has l _ k).1 hh
      exact ⟨fun h => by omega, fun h => absurd e (h k (Nat.lt_succ_self k) i hi)⟩
    · rw [pcD_no (by simpa using hh), size_put (pcD_tidy l k), if_neg hh]
      constructor
      · intro h i hi j hj
        rcases Nat.lt_succ_iff_lt_or_eq.1 hi with h1 | rfl
        · exact ih.1 (by omega) i h1 j hj
        · intro e
          exact hh ((pcD_has l _ i).2 ⟨j, hj, e⟩)
      · intro h
        have := ih.2 fun i hi j hj => h i (by omega) j hj
        omega
theorem isK_ed {s t : Ck} {x : Lk} : isK s t x = true ↔ edOf x = ⟨s, t⟩ := by
  rw [isK_iff]
  exact ⟨fun h => Ed.ext h.1 h.2, fun h => ⟨congrArg Ed.s h, congrArg Ed.t h⟩⟩
def whereK (l : List Lk) (s t : Ck) : Int := if atK l s t < l.length then (atK l s t : Int) else 0
/-- What is sought. -/
theorem pcD_look (l : List Lk) (s t : Ck) : Maps.has (pcD l l.length) (ek ⟨s, t⟩) = decide (atK l s t < l.length) ∧ (pcD l l.length).atKey (ek ⟨s, t⟩) (iLk 0) = iLk (whereK l s t) := by
  by_cases h : atK l s t < l.length
  · rw [decide_eq_true h, pcD_has]
    have h1 := isK_ed.1 (at_here h)
    refine ⟨⟨_, h, h1⟩, ?_⟩
    unfold whereK
    rw [if_pos h]
    exact pcD_at _ h1 (fun j hj e => by have := at_ahead hj; rw [isK_ed.2 e] at this; cases this) _ h
  · have hn : Maps.has (pcD l l.length) (ek ⟨s, t⟩) = false := by
      rw [← Bool.not_eq_true, pcD_has]
      rintro ⟨i, hi, e⟩
      have hk := isK_ed.2 e
      have : atK l s t ≤ i := by
        rcases Nat.lt_or_ge i (atK l s t) with h2 | h2
        · rw [at_ahead h2] at hk; cases hk
        · exact h2
      omega
    refine ⟨by rw [hn, decide_eq_false h], ?_⟩
    unfold whereK
    rw [if_neg h]
    exact atKey_of_not_has hn _
theorem mayK_iff (l : List Lk) : MayK l l.length ↔ (∀ i, i < l.length → okK (lkAt l i)) ∧ Maps.size (pcD l l.length) = l.length := by
  rw [pcD_size]
  have he : ∀ i k, oneB (lkAt l i) (lkAt l k) = false ↔ edAt l k ≠ edAt l i := fun i k => by
    rw [← Bool.not_eq_true, oneB_iff]
    exact not_congr ⟨fun h => Ed.ext h.1.symm h.2.symm, fun h => ⟨(congrArg Ed.s h).symm, (congrArg Ed.t h).symm⟩⟩
  unfold MayK
  constructor
  · intro h
    exact ⟨fun i hi => (h i hi).1, fun i hi j hj => (he i j).1 ((h i hi).2 j hj)⟩
  · intro h i hi
    exact ⟨h.1 i hi, fun k hk => (he i k).2 (h.2 i hi k hk)⟩
end
end Go.Proofs.Ytkbifcfgcokmlaa
namespace Go.Proofs.Ytkbifcfgcokmlaa
open Go.RowKit
set_option maxRecDepth 100000
section
variable {P : Program} {ops : Array Oper} {E : List Nat} {L : World → World → Prop} {W : World} {Q : Exit → Act → World → Prop} {α : Type} {F : Lie α}
theorem wpXL_appendE {T : TypeId} (K : Known P F T) {k : Nat} {o : Oper} {rest : List Oper} {a : Act} {w : World} {σ : List (Nat × World)} (hE : E.contains k = true) (hgd : o.guard = none) (s x : Operand)
    (ho : o.op = .call { callee := .builtin .append, args := #[s, x], argTypes := #[T, T] })
    (base : Nat) (v : Value) (j : List α) (hs : a.eval s = v) (hown : OwnE F w base v j) (vx : Value) (l : List α) (hx : a.eval x = vx) (hsl : SlE F w vx l)
    (hlen : j.length + l.length ≤ 1000000) (hbase : base ≤ w.heap.size) (hl : ∀ v' w', Gr w v w' v' → L w w')
    (h : ∀ v' w', OwnE F w' base v' (j ++ l) → Gr w v w' v' → wpXL L P ops E W Q (k + 1) rest (a.put o.dst v') w' ((k, w') :: σ)) : wpXL L P ops E W Q k (o :: rest) a w σ := by
  obtain ⟨v', w', hr, h2, h3⟩ := run_append_E K w o.type base v j hown vx l hsl hlen hbase
  refine wpXL_eff hE (by simp [Region.wanted, hgd]) v' w' ?_ (hl v' w' h3) (h v' w' h2 h3)
  unfold execOp
  simp only [ho, resolve, invoke, builtin, Sem.run_bind, Sem.run_pure, Result.andThen_ok, List.map_toArray, List.map_cons, List.map_nil, hs, hx, hr]
end
theorem ldA_wdB' {B : Nat} {W : World} {b o n : Nat} {c : Array Value} (h : ldA W (.pointer (some ⟨b, o, none⟩)) n = some c) (hb : b < B) (p : WdB B W) : ldA p.w (.pointer (some ⟨b, o, none⟩)) n = some c := (ldA_below p.h b o n hb).trans h
theorem cell_wdB' {B : Nat} {W : World} {b o : Nat} {c : Value} (h : W.cell? ⟨b, o, none⟩ = some c) (hb : b < B) (p : WdB B W) : p.w.cell? ⟨b, o, none⟩ = some c := (p.h.cell (p := ⟨b, o, none⟩) hb).trans h
end Go.Proofs.Ytkbifcfgcokmlaa
