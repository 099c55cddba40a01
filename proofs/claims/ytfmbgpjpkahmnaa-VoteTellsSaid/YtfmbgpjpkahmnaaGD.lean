/-
  An element stored whole into a slice; for every program.
  append onto a row of the call's own, of as many elements as memory holds; for every program.
  An element stored whole into a row of the call's own; for every program.
-/
import Derived.Test.YtfmbgpjpkahmnaaEl
import Derived.Test.YtfmbgpjpkahmnaaMem
import Derived.Test.YtfmbgpjpkahmnaaSt
namespace Go.Proofs.Ytfmbgpjpkahmnaa
open Go.RowKit
theorem range_join {w : World} {b o : Nat} {xs ys : List Value} (h : w.rangeAt b o xs) (k : w.rangeAt b (o + xs.length) ys) : w.rangeAt b o (xs ++ ys) := fun j v hv => by
  by_cases hj : j < xs.length
  · rw [List.getElem?_append_left hj] at hv
    exact h j v hv
  · rw [List.getElem?_append_right (by omega)] at hv
    have := k _ v hv
    rwa [show o + xs.length + (j - xs.length) = o + j by omega] at this
theorem range_left {w : World} {b o : Nat} {xs ys : List Value} (h : w.rangeAt b o (xs ++ ys)) : w.rangeAt b o xs := fun j v hv => h j v (by rw [List.getElem?_append_left (List.getElem?_eq_some_iff.1 hv).1]; exact hv)
theorem range_right {w : World} {b o : Nat} {xs ys : List Value} (h : w.rangeAt b o (xs ++ ys)) : w.rangeAt b (o + xs.length) ys := fun j v hv => by
  rw [Nat.add_assoc]
  exact h _ v (by rw [List.getElem?_append_right (by omega), Nat.add_sub_cancel_left]; exact hv)
section
variable {α : Type} {E : Lie α}
theorem cellsE_cut (l : List α) {i : Nat} (hi : i < l.length) : cellsE E l = cellsE E (l.take i) ++ (E.enc l[i] ++ cellsE E (l.drop (i + 1))) := by
  conv => lhs; rw [← List.take_append_drop i l]
  rw [cellsE_append, List.drop_eq_getElem_cons hi, cellsE_cons]
theorem cellsE_set (l : List α) {i : Nat} (hi : i < l.length) (x : α) : cellsE E (l.set i x) = cellsE E (l.take i) ++ (E.enc x ++ cellsE E (l.drop (i + 1))) := by
  rw [cellsE_cut (l.set i x) (i := i) (by rw [List.length_set]; exact hi), List.take_set_of_le (Nat.le_refl _), List.getElem_set_self, List.drop_set_of_lt (by omega)]
/-- The element's cells are those of the value, all others stay. -/
theorem range_put {w : World} {b o : Nat} {l : List α} (h : w.rangeAt b o (cellsE E l)) {i : Nat} (hi : i < l.length) (hw : wrA w (.pointer (some ⟨b, o + i * E.n, none⟩)) E.n = true) (x : α) :
    (w.setCells b (o + i * E.n) (E.enc x)).rangeAt b o (cellsE E (l.set i x)) := by
  have hlen : (cellsE E (l.take i)).length = i * E.n := by rw [cellsE_length, List.length_take, Nat.min_eq_left (by omega)]
  rw [cellsE_cut l hi] at h
  rw [cellsE_set l hi]
  have h1 := range_left h
  have h2 := range_right (range_right h)
  rw [hlen, E.len] at h2
  refine range_join (World.rangeAt_setCells_apart h1 _ _ _ (.inr (.inl (by rw [hlen]; exact Nat.le_refl _)))) (range_join ?_ ?_)
  · rw [hlen]
    exact World.rangeAt_setCells_same w b _ _ (by rw [E.len]; exact wrA_there.1 hw)
  · rw [hlen, E.len]
    exact World.rangeAt_setCells_apart h2 _ _ _ (.inr (.inr (by rw [E.len]; exact Nat.le_refl _)))
/-- An element of a row of the call's own may be written. -/
theorem ownE_wr {w : World} {base g n cap : Nat} {l : List α} (h : OwnE E w base (.slice (some ⟨g, 0, none⟩) n cap) l) (hl : l.length = n) {i : Nat} (hi : i < n) : wrA w (.pointer (some ⟨g, 0 + i * E.n, none⟩)) E.n = true := by
  subst hl
  obtain ⟨b, off, c, e, _, _, x⟩ := slE_ne (ownE_slE h) (by omega)
  injection e with e _ _
  injection e with e
  injection e with e1 e2
  subst e1 e2
  refine wrA_there.2 fun j hj => ⟨?_, ?_⟩
  · have hc : (E.enc l[i])[j]? = some ((E.enc l[i])[j]'(by rw [E.len]; exact hj)) := List.getElem?_eq_getElem _
    rw [cell_at x hi hc]
    rfl
  · exact World.ownsRow.frozenAt h _
end
end Go.Proofs.Ytfmbgpjpkahmnaa
namespace Go.Proofs.Ytfmbgpjpkahmnaa
open Go.RowKit
section
variable {α : Type} {E : Lie α} {P : Program}
/-- What the program knows of the element's type, its bytes told. -/
structure KnownB (P : Program) (E : Lie α) (T : TypeId) (bytes : Nat) : Prop where
  slice : P.underlying T = some (.slice E.t)
  info : ∃ z : Value, (P.info? E.t).map (fun i => (i.zero, i.size, i.bytes)) = some (some z, E.n, bytes) ∧ z.cells.size = E.n
theorem run_append_B {T : TypeId} {bytes : Nat} (K : KnownB P E T bytes) (w : World) (ty : TypeId) (base : Nat) (v : Value) (k : List α) (hown : OwnE E w base v k) (vx : Value) (l : List α) (hsl : SlE E w vx l) (hlen : k.length + l.length ≤ maxLen) (hb : (k.length + l.length) * bytes ≤ 140737488355328) (hbase : base ≤ w.heap.size) :
    ∃ v' w', (Builtin.append_ #[T, T] ty #[v, vx]).run P w = .ok v' w' ∧ OwnE E w' base v' (k ++ l) ∧ Gr w v w' v' := by
  obtain ⟨z, hinf, hzs⟩ := K.info
  obtain ⟨i, hi, hz0, hz1, hz2⟩ := info_parts hinf
  by_cases hn : l = []
  · subst hn
    obtain ⟨p, cap, rfl, _⟩ := hsl
    exact ⟨v, w, run_append_noneE (P := P) (w := w) base T ty E.t i E.n K.slice hi v k.length _ hown p cap, by simpa using hown, Gr.refl _ _⟩
  · obtain ⟨b, off, cap, rfl, _, _, hc⟩ := slE_ne hsl (List.length_pos_iff.2 hn)
    obtain ⟨v', w', h1, h2, h3, _, h5⟩ := run_append_own_at (P := P) w base T ty E.t i z E.n bytes K.slice hi hz0 hz1 hz2 hzs E.pos v k.length (cellsE E k) hown ⟨b, off, none⟩ l.length cap (cellsE E l) (cellsE_length E l) (range_cells hc) (cellsE_one E l) hlen hb hbase
    refine ⟨v', w', h1, ?_, h3, h5.imp id fun e q hq => ?_⟩
    · unfold OwnE; rw [List.length_append, cellsE_append]; exact h2
    · rw [e] at hq; injection hq with hq; omega
theorem wpList_append_B {T : TypeId} {bytes : Nat} (K : KnownB P E T bytes) (w : World) {ops : Array Oper} {rest : List Oper} {o : Oper} {a : Act} {Q : Exit → Act → World → Prop} (hgd : o.guard = none) (s x : Operand)
    (ho : o.op = .call { callee := .builtin .append, args := #[s, x], argTypes := #[T, T] })
    (base : Nat) (v : Value) (k : List α) (hs : a.eval s = v) (hown : OwnE E w base v k) (vx : Value) (l : List α) (hx : a.eval x = vx) (hsl : SlE E w vx l)
    (hlen : k.length + l.length ≤ maxLen) (hb : (k.length + l.length) * bytes ≤ 140737488355328) (hbase : base ≤ w.heap.size)
    (h : ∀ v' w', OwnE E w' base v' (k ++ l) → Gr w v w' v' → wpList P ops Q rest (a.put o.dst v') w') : wpList P ops Q (o :: rest) a w :=
  wpList_plain hgd fun K' hK => by
    obtain ⟨v', w', hr, h2, h3⟩ := run_append_B K w o.type base v k hown vx l hsl hlen hb hbase
    unfold Oper.wp execOp
    simp only [ho, resolve, invoke, builtin, Sem.run_bind, Sem.run_pure, Result.andThen_ok, List.map_toArray, List.map_cons, List.map_nil, hs, hx, hr]
    exact hK _ _ (h v' w' h2 h3)
end
end Go.Proofs.Ytfmbgpjpkahmnaa
namespace Go.Proofs.Ytfmbgpjpkahmnaa
open Go.RowKit
section
variable {α : Type} {E : Lie α}
theorem ownE_put {w : World} {base g n cap : Nat} {l : List α} (h : OwnE E w base (.slice (some ⟨g, 0, none⟩) n cap) l) (hn : l.length = n) {i : Nat} (hi : i < n) (y : α) {r : Array Value} (hr : r.toList = E.enc y) : OwnE E (stA w (.pointer (some ⟨g, i * E.n, none⟩)) (.agg r)) base (.slice (some ⟨g, 0, none⟩) n cap) (l.set i y) := by
  subst hn
  unfold OwnE at h ⊢
  obtain ⟨_, h2⟩ := h
  rcases h2 with ⟨e, _⟩ | ⟨g', cap', cur, e, hb, hg, hc, hm, hs, ht⟩
  · cases e
  · injection e with e1 _ e3
    injection e1 with e1
    injection e1 with e1
    subst e1 e3
    have hsz : r.size = E.n := by rw [← Array.length_toList, hr, E.len]
    have hmul : (i + 1) * E.n ≤ l.length * E.n := Nat.mul_le_mul hi (Nat.le_refl _)
    have hcap : l.length * E.n ≤ cap * E.n := Nat.mul_le_mul hc (Nat.le_refl _)
    have hsucc : (i + 1) * E.n = i * E.n + E.n := Nat.succ_mul _ _
    have hfit : i * E.n + r.size ≤ cur.size := by omega
    refine ⟨by rw [cellsE_length], .inr ⟨g, cap, putSeg cur (i * E.n) r, by rw [List.length_set], hb, heap_stA_same hg hfit, by rw [List.length_set]; exact hc, hm, by rw [putSeg_size hfit, hs], ?_⟩⟩
    have h1 : (cellsE E (l.take i)).length = i * E.n := by rw [cellsE_length, List.length_take, Nat.min_eq_left (by omega)]
    have h3 : (E.enc l[i]).length = E.n := E.len _
    have ht' := ht
    rw [cellsE_cut l hi] at ht'
    have t1 : cur.toList.take (i * E.n) = cellsE E (l.take i) := by
      have := congrArg (List.take (i * E.n)) ht'
      rw [List.take_take, Nat.min_eq_left (by omega), List.take_left' h1] at this
      exact this
    have t2 : (cur.toList.drop (i * E.n + E.n)).take (l.length * E.n - (i * E.n + E.n)) = cellsE E (l.drop (i + 1)) := by
      have := congrArg (List.drop (i * E.n + E.n)) ht'
      rw [List.drop_take, ← List.append_assoc, List.drop_left' (by rw [List.length_append, h1, h3])] at this
      exact this
    rw [List.length_set, cellsE_set l hi]
    unfold putSeg
    rw [hsz, hr, t1]
    have e4 : (cellsE E (l.take i) ++ E.enc y).length = i * E.n + E.n := by rw [List.length_append, h1, E.len]
    rw [← List.append_assoc, List.toList_toArray, List.take_append, e4, List.take_of_length_le (by rw [e4]; omega), t2, List.append_assoc]
end
end Go.Proofs.Ytfmbgpjpkahmnaa
