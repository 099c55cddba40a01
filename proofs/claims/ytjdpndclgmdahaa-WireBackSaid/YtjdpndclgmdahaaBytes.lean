/-
  Bytes in memory: a slice that reads as a list of bytes, a row of the call's own, append, cuts, string(b), an argument; in any translation that has the type.
-/
import Derived.Test.YtjdpndclgmdahaaRt
import Derived.Test.YtjdpndclgmdahaaLex
import Derived.Maps.AppendAt
import Derived.Deep.RegionLaw
import Derived.Laws.AppendOwnNone
import Derived.Laws.BytesArg
import Derived.Laws.CopyOwn
namespace Go.Proofs.Ytjdpndclgmdahaa
open Go.RowKit

/-- The byte at a place. -/
def bt (l : List UInt8) (i : Nat) : Int := ((l.getD i 0).toNat : Int)
def b8 (l : List UInt8) : List Value := l.map fun b => .int .u8 (b.toNat : Int)
theorem bt_bd (l : List UInt8) (i : Nat) : 0 ≤ bt l i ∧ bt l i < 256 := by
  unfold bt
  have := (l.getD i 0).toNat_lt
  omega
theorem b8_length (l : List UInt8) : (b8 l).length = l.length := by simp [b8]
theorem b8_get (l : List UInt8) (i : Nat) (h : i < l.length) : (b8 l)[i]? = some (.int .u8 (bt l i)) := by
  simp [b8, bt, h]
theorem b8_append (k l : List UInt8) : b8 (k ++ l) = b8 k ++ b8 l := by simp [b8]
theorem b8_one (l : List UInt8) : ∀ u ∈ b8 l, u.oneCell' = true := fun u h => by
  obtain ⟨b, _, rfl⟩ := List.mem_map.1 h
  rfl
theorem bt_drop (l : List UInt8) (n i : Nat) : bt (l.drop n) i = bt l (n + i) := by simp [bt]
theorem bt_take (l : List UInt8) (n i : Nat) (h : i < n) : bt (l.take n) i = bt l i := by simp [bt, h]
theorem bt_ext {k l : List UInt8} (hl : k.length = l.length) (h : ∀ i, i < l.length → bt k i = bt l i) : k = l := by
  apply List.ext_getElem hl
  intro i h1 h2
  have := h i h2
  unfold bt at this
  rw [getD_in _ h1, getD_in _ h2] at this
  exact UInt8.toNat_inj.1 (by omega)
theorem rc_b8 (r : Rt) : (rc r).toList = b8 r.toList := by simp [rc, b8, Vector.toList]
theorem at8_bt (r : Rt) (i : Nat) : at8 r i = bt r.toList i := rfl

theorem Try.infoByte : (Try.prog.info? 5).map (fun i => (i.zero, i.size, i.bytes)) = some (some (.int .u8 0), 1, 1) := by kernel_rfl
theorem Try.sizeByte : (Try.prog.info? 5).map (·.size) = some 1 := by kernel_rfl

/-- A slice that reads as these bytes. -/
def SlB (w : World) (v : Value) (l : List UInt8) : Prop :=
  ∃ p cap, v = .slice p l.length cap ∧ l.length ≤ cap ∧ (l = [] ∨ ∃ b off, p = some ⟨b, off, none⟩ ∧ b < w.heap.size ∧ ∀ i, i < l.length → w.cell? ⟨b, off + i, none⟩ = some (.int .u8 (bt l i)))
theorem slB_nil (w : World) (p : Option Addr) (cap : Nat) : SlB w (.slice p 0 cap) [] := ⟨p, cap, rfl, Nat.zero_le _, .inl rfl⟩
theorem slB_keep {w w' : World} (g : Below w.heap.size w w') {v : Value} {l : List UInt8} (h : SlB w v l) : SlB w' v l := by
  obtain ⟨p, cap, rfl, hc, h⟩ := h
  refine ⟨p, cap, rfl, hc, h.imp id ?_⟩
  rintro ⟨b, off, rfl, hb, h⟩
  exact ⟨b, off, rfl, Nat.lt_of_lt_of_le hb g.size, fun i hi => by rw [g.cell (p := ⟨b, off + i, none⟩) hb]; exact h i hi⟩
theorem slB_ne {w : World} {v : Value} {l : List UInt8} (h : SlB w v l) (hn : 0 < l.length) : ∃ b off cap, v = .slice (some ⟨b, off, none⟩) l.length cap ∧ l.length ≤ cap ∧ b < w.heap.size ∧ ∀ i, i < l.length → w.cell? ⟨b, off + i, none⟩ = some (.int .u8 (bt l i)) := by
  obtain ⟨p, cap, rfl, hc, h⟩ := h
  obtain ⟨b, off, rfl, hb, h⟩ := h.resolve_left (fun e => by rw [e] at hn; simp at hn)
  exact ⟨b, off, cap, rfl, hc, hb, h⟩
theorem slB_shape {w : World} {v : Value} {l : List UInt8} (h : SlB w v l) : ∃ p cap, v = .slice p l.length cap ∧ l.length ≤ cap := by
  obtain ⟨p, cap, rfl, hc, _⟩ := h
  exact ⟨p, cap, rfl, hc⟩

/-- A row of bytes of the call's own, from block 'base' on. -/
def Own (w : World) (base : Nat) (v : Value) (l : List UInt8) : Prop := w.ownsRow base 5 1 v l.length (b8 l)
theorem own_nil (w : World) (base : Nat) : Own w base (.slice none 0 0) [] := World.ownsRow_nil _ _ _ _
theorem own_slB {w : World} {base : Nat} {v : Value} {l : List UInt8} (h : Own w base v l) : SlB w v l := by
  rcases h.2 with ⟨rfl, h0⟩ | ⟨g, cap, cur, rfl, hg1, hg2, hn1, hn2, hn3, hn4⟩
  · have : l = [] := List.length_eq_zero_iff.1 h0
    subst this
    exact slB_nil _ _ _
  · refine ⟨_, _, rfl, hn1, .inr ⟨g, 0, rfl, (Array.getElem?_eq_some_iff.1 hg2).1, fun i hi => ?_⟩⟩
    rw [Nat.zero_add, cell_of_row w g i cur _ _ hg2]
    have e : (cur.toList.take (l.length * 1))[i]? = (b8 l)[i]? := by rw [hn4]
    rw [List.getElem?_take, if_pos (by omega), b8_get l i hi] at e
    simpa using e
theorem own_base {w : World} {base base' : Nat} {v : Value} {l : List UInt8} (h : Own w base v l) (hb : base' ≤ base) : Own w base' v l := by
  refine ⟨h.1, h.2.imp id ?_⟩
  rintro ⟨g, cap, cur, h1, h2, h3⟩
  exact ⟨g, cap, cur, h1, Nat.le_trans hb h2, h3⟩
theorem own_keep {w w' : World} (g : Below w.heap.size w w') {base : Nat} {v : Value} {l : List UInt8} (h : Own w base v l) : Own w' base v l := by
  refine ⟨h.1, h.2.imp id ?_⟩
  rintro ⟨q, cap, cur, h1, h2, h3, h4⟩
  exact ⟨q, cap, cur, h1, h2, by rw [g.block q (Array.getElem?_eq_some_iff.1 h3).1]; exact h3, h4⟩
theorem own_made (w : World) (cap : Nat) (hc : cap ≤ maxLen) (c : Array Value) (hs : c.size = cap) (b : Nat) (hb : b = w.heap.size) : Own (w.alloc (.cells c 5)) b (.slice (some ⟨b, 0, none⟩) 0 cap) [] := by
  subst hb
  exact World.ownsRow_made w c cap (Nat.le_refl _) hc (by omega)
theorem own_lit (w : World) (l : List UInt8) (hl : l.length ≤ maxLen) (c : Array Value) (hc : c = (b8 l).toArray) (b : Nat) (hb : b = w.heap.size) : Own (w.alloc (.cells c 5)) b (.slice (some ⟨b, 0, none⟩) l.length l.length) l := by
  subst hb hc
  refine ⟨by simp [b8_length], .inr ⟨w.heap.size, l.length, (b8 l).toArray, rfl, Nat.le_refl _, heap_alloc_last w _, Nat.le_refl _, hl, by simp [b8_length], by rw [Nat.mul_one]; exact List.take_of_length_le (by rw [b8_length]; exact Nat.le_refl _)⟩⟩
theorem own_alloc {w : World} {base : Nat} {v : Value} {l : List UInt8} (h : Own w base v l) (o : Obj) : Own (w.alloc o) base v l := World.ownsRow.alloc h o
theorem own_ne {w : World} {base : Nat} {v : Value} {l : List UInt8} (h : Own w base v l) {b : Nat} (hb : w.heap.size ≤ b) : v.ownBlock ≠ some b := fun e => by
  have := (World.ownsRow.lt h b e).2
  omega
theorem own_drew {w : World} {base : Nat} {v : Value} {l : List UInt8} (h : Own w base v l) : Own w.drew base v l := h
theorem slB_lit (w : World) (l : List UInt8) (t : TypeId) (c : Array Value) (b : Nat) (hb : b = w.heap.size) (hc : c = (b8 l).toArray) : SlB (w.alloc (.cells c t)) (.slice (some ⟨b, 0, none⟩) l.length l.length) l := by
  subst hb hc
  refine ⟨_, _, rfl, Nat.le_refl _, .inr ⟨w.heap.size, 0, rfl, by simp, fun i hi => ?_⟩⟩
  rw [Nat.zero_add, cell_of_row _ _ i _ _ _ (heap_alloc_last w _), List.getElem?_toArray]
  exact b8_get l i hi
theorem b8_one1 (x : UInt8) (X : Int) (h : X = (x.toNat : Int)) : #[Value.int .u8 X] = (b8 [x]).toArray := by subst h; rfl
/-- From one row to the next: the row's own block, or a new one; no other block has turned. -/
def Grw (w : World) (v : Value) (w' : World) (v' : Value) : Prop := w.grownBy w' v.ownBlock ∧ (v'.ownBlock = v.ownBlock ∨ ∀ k, v'.ownBlock = some k → w.heap.size ≤ k)
theorem Grw.refl (w : World) (v : Value) : Grw w v w v := ⟨⟨rfl, rfl, rfl, Nat.le_refl _, fun _ _ _ => rfl⟩, .inl rfl⟩
theorem Grw.trans {w w1 w2 : World} {v v1 v2 : Value} (h : Grw w v w1 v1) (k : Grw w1 v1 w2 v2) : Grw w v w2 v2 := by
  obtain ⟨hg, ho⟩ := h
  obtain ⟨kg, ko⟩ := k
  have hs := hg.size
  refine ⟨⟨kg.os.trans hg.os, kg.tape.trans hg.tape, kg.output.trans hg.output, Nat.le_trans hs kg.size, fun q hq hne => ?_⟩, ?_⟩
  · rw [kg.block q (by omega) (fun e => ?_), hg.block q hq hne]
    rcases ho with ho | ho
    · exact hne (by rw [e, ho])
    · have := ho q e.symm; omega
  · rcases ko with ko | ko
    · rcases ho with ho | ho
      · exact .inl (ko.trans ho)
      · exact .inr fun q hq => ho q (by rw [← ko]; exact hq)
    · exact .inr fun q hq => Nat.le_trans hs (ko q hq)
theorem Grw.below {w w' : World} {v v' : Value} (h : Grw w v w' v') {base : Nat} (hb : base ≤ w.heap.size) (hv : ∀ k, v.ownBlock = some k → base ≤ k) : Below base w w' := (Below.refl base w).grown h.1 hb hv
theorem Grw.own {w w' : World} {v v' : Value} (h : Grw w v w' v') {base : Nat} {l : List UInt8} (ho : Own w base v l) (hb : base ≤ w.heap.size) : Below base w w' := h.below hb (fun k hk => (World.ownsRow.lt ho k hk).1)
theorem Grw.drew {w w' : World} {v v' : Value} (h : Grw w.drew v w' v') : Grw w v w' v' := ⟨⟨h.1.os, h.1.tape, h.1.output, h.1.size, h.1.block⟩, h.2⟩
theorem Grw.alloc {w : World} {o : Obj} {w' : World} {v v' : Value} (h : Grw (w.alloc o) v w' v') : Grw w v w' v' := by
  obtain ⟨hg, ho⟩ := h
  have hs := hg.size
  have e : (w.alloc o).heap.size = w.heap.size + 1 := by simp
  refine ⟨⟨hg.os, hg.tape, hg.output, by omega, fun q hq hne => ?_⟩, ho.imp id fun h k hk => by have := h k hk; omega⟩
  rw [hg.block q (by omega) hne, Below.heap_alloc w o q hq]
/-- A block other than the row's, kept. -/
theorem Grw.block {w w' : World} {v v' : Value} (h : Grw w v w' v') {b : Nat} (hb : b < w.heap.size) (hne : v.ownBlock ≠ some b) : w'.heap[b]? = w.heap[b]? := h.1.block b hb (fun e => hne e.symm)

theorem slB_cells {w : World} {b off : Nat} {l : List UInt8} (h : ∀ i, i < l.length → w.cell? ⟨b, off + i, none⟩ = some (.int .u8 (bt l i))) : ∀ (j : Nat) (u : Value), (b8 l)[j]? = some u → w.cell? ((⟨b, off, none⟩ : Addr).add j) = some u := fun j u hu => by
  have hj : j < l.length := by have := (List.getElem?_eq_some_iff.1 hu).1; rwa [b8_length] at this
  rw [Addr.add_mid, h j hj, ← hu, b8_get l j hj]
theorem run_append_empty {P : Program} {w : World} (base : Nat) (t ty e : TypeId) (i : TypeInfo) (size : Nat) (ht : P.underlying t = some (.slice e)) (hi : P.info? e = some i)
    (v : Value) (n : Nat) (xs : List Value) (hown : w.ownsRow base e size v n xs) (p : Option Addr) (c : Nat) :
    (Builtin.append_ #[t, t] ty #[v, .slice p 0 c]).run P w = .ok v w := by
  rcases hown.2 with ⟨rfl, rfl⟩ | ⟨g, cap, cur, rfl, _, _, hnc, _⟩
  · cases p <;> simp [Builtin.append_, run_underlying ht, sizeOf, typeInfo, hi, Builtin.lenOf, Builtin.firstCells, loadCells, loadCellsFrom]
  · cases p <;> simp [Builtin.append_, run_underlying ht, sizeOf, typeInfo, hi, Builtin.lenOf, Builtin.firstCells, loadCells, loadCellsFrom, hnc, storeCells]
/-- append, run: onto a row of the call's own, of bytes wherever they lie. -/
theorem run_append_bytes (w : World) (ty : TypeId) (base : Nat) (v : Value) (k : List UInt8) (hown : Own w base v k) (vx : Value) (l : List UInt8) (hsl : SlB w vx l) (hlen : k.length + l.length ≤ 140737488355328) (hbase : base ≤ w.heap.size) :
    ∃ v' w', (Builtin.append_ #[31, 31] ty #[v, vx]).run Try.prog w = .ok v' w' ∧ Own w' base v' (k ++ l) ∧ Grw w v w' v' := by
  obtain ⟨i, hi, hz0, hz1, hz2⟩ := info_parts Try.infoByte
  by_cases hn : l = []
  · subst hn
    obtain ⟨p, cap, rfl, _⟩ := hsl
    exact ⟨v, w, run_append_empty (P := Try.prog) (w := w) base 31 ty 5 i 1 Try.underlying31 hi v k.length _ hown p cap, by simpa using hown, Grw.refl _ _⟩
  · obtain ⟨b, off, cap, rfl, _, _, hc⟩ := slB_ne hsl (List.length_pos_iff.2 hn)
    obtain ⟨v', w', h1, h2, h3, _, h5⟩ := run_append_own_at (P := Try.prog) w base 31 ty 5 i (.int .u8 0) 1 1 Try.underlying31 hi hz0 hz1 hz2 rfl (by decide) v k.length (b8 k) hown ⟨b, off, none⟩ l.length cap (b8 l) (by simp [b8_length]) (slB_cells hc) (b8_one l) (by unfold maxLen; omega) (by omega) hbase
    refine ⟨v', w', h1, ?_, h3, h5.imp id fun e q hq => ?_⟩
    · unfold Own; rw [List.length_append, b8_append]; exact h2
    · rw [e] at hq; injection hq with hq; omega
theorem wp_append_bytes (w : World) {o : Oper} {a : Act} {K : Act → World → Prop} {Q : Exit → Act → World → Prop} (s x : Operand)
    (ho : o.op = .call { callee := .builtin .append, args := #[s, x], argTypes := #[31, 31] })
    (base : Nat) (v : Value) (k : List UInt8) (hs : a.eval s = v) (hown : Own w base v k) (vx : Value) (l : List UInt8) (hx : a.eval x = vx) (hsl : SlB w vx l)
    (hlen : k.length + l.length ≤ 140737488355328) (hbase : base ≤ w.heap.size)
    (h : ∀ v' w', Own w' base v' (k ++ l) → Grw w v w' v' → K (a.put o.dst v') w') : o.wp Try.prog a w K Q := by
  obtain ⟨v', w', hr, h2, h3⟩ := run_append_bytes w o.type base v k hown vx l hsl hlen hbase
  unfold Oper.wp execOp
  simp only [ho, resolve, invoke, builtin, Sem.run_bind, Sem.run_pure, Result.andThen_ok, List.map_toArray, List.map_cons, List.map_nil, hs, hx, hr]
  exact h v' w' h2 h3
/-- append(s, l...), s the call's own, l bytes wherever they lie: at a plain region's list. -/
theorem wpList_append_bytes (w : World) {ops : Array Oper} {rest : List Oper} {o : Oper} {a : Act} {Q : Exit → Act → World → Prop} (hgd : o.guard = none) (s x : Operand)
    (ho : o.op = .call { callee := .builtin .append, args := #[s, x], argTypes := #[31, 31] })
    (base : Nat) (v : Value) (k : List UInt8) (hs : a.eval s = v) (hown : Own w base v k) (vx : Value) (l : List UInt8) (hx : a.eval x = vx) (hsl : SlB w vx l)
    (hlen : k.length + l.length ≤ 140737488355328) (hbase : base ≤ w.heap.size)
    (h : ∀ v' w', Own w' base v' (k ++ l) → Grw w v w' v' → wpList Try.prog ops Q rest (a.put o.dst v') w') : wpList Try.prog ops Q (o :: rest) a w :=
  wpList_plain hgd fun _ hK => wp_append_bytes w s x ho base v k hs hown vx l hx hsl hlen hbase fun v' w' h2 h3 => hK _ _ (h v' w' h2 h3)

/-! ### s[l:], s[:h] of bytes; a[:] of a root -/
def cutFB (v lo : Value) : Option Value :=
  match v, lo with
  | .slice a len cap, .int _ l => if 0 ≤ l ∧ l ≤ len then some (sliced a l.toNat len cap 1) else none
  | _, _ => none
def cutTB (v hi : Value) : Option Value :=
  match v, hi with
  | .slice a _ cap, .int _ h => if 0 ≤ h ∧ h ≤ cap then some (sliced a 0 h.toNat cap 1) else none
  | _, _ => none
def vOut (o : Option Value) (w : World) (r : Result Next) : Result Next :=
  match o with
  | some v => .ok (.value v) w
  | none => r
@[go_sem] theorem vOut_some (v : Value) (w : World) (r : Result Next) : vOut (some v) w r = .ok (.value v) w := rfl
theorem under_bytes : Try.prog.underlying 31 = some (.slice (Try.prog.elem 31)) := by simp [Program.elem, Try.underlying31]
theorem elem_bytes : Try.prog.elem 31 = 5 := by simp [Program.elem, Try.underlying31]
@[go_sem ↓] theorem slice_from_bytes (ρ : Operand → Value) (dst : Option Tmp) (x lo : Operand) (ty : TypeId) (pos : String) (after : Array Edge) (guard : Option (Nat × Bool)) (w : World) :
    (execOp ρ { dst, op := .slice 31 x (some lo) none none, type := ty, pos, after, guard }).run Try.prog w = vOut (cutFB (ρ x) (ρ lo)) w (opRest Try.prog ρ { dst, op := .slice 31 x (some lo) none none, type := ty, pos, after, guard } w) := by
  cases h : cutFB (ρ x) (ρ lo) with
  | none => rfl
  | some v =>
    unfold cutFB at h
    split at h
    · rename_i a len cap k l hx hl
      split at h
      · rename_i hb
        have hv := Option.some.inj h
        subst hv
        unfold execOp
        simp only [hx, hl, Option.map_some, Option.map_none, Sem.run_bind]
        rw [run_sliceAt_slice w _ _ _ _ _ under_bytes, run_slice_l w _ a len cap under_bytes k l hb.1 hb.2, elem_bytes, Try.sizeOf5]
        rfl
      · cases h
    · cases h
@[go_sem ↓] theorem slice_to_bytes (ρ : Operand → Value) (dst : Option Tmp) (x hi : Operand) (ty : TypeId) (pos : String) (after : Array Edge) (guard : Option (Nat × Bool)) (w : World) :
    (execOp ρ { dst, op := .slice 31 x none (some hi) none, type := ty, pos, after, guard }).run Try.prog w = vOut (cutTB (ρ x) (ρ hi)) w (opRest Try.prog ρ { dst, op := .slice 31 x none (some hi) none, type := ty, pos, after, guard } w) := by
  cases h : cutTB (ρ x) (ρ hi) with
  | none => rfl
  | some v =>
    unfold cutTB at h
    split at h
    · rename_i a len cap k l hx hl
      split at h
      · rename_i hb
        have hv := Option.some.inj h
        subst hv
        unfold execOp
        simp only [hx, hl, Option.map_some, Option.map_none, Sem.run_bind]
        rw [run_sliceAt_slice w _ _ _ _ _ under_bytes, run_slice_h w _ a len cap under_bytes k l hb.1 hb.2, elem_bytes, Try.sizeOf5]
        rfl
      · cases h
    · cases h
/-- s[n:]. -/
theorem cut_fromB (p : Option Addr) (cap : Nat) (l : List UInt8) (n : Nat) (hn : n ≤ l.length) (hc : l.length ≤ cap) : ∃ vr, cutFB (.slice p l.length cap) (.int .i64 (n : Int)) = some vr ∧ ∀ (w : World), SlB w (.slice p l.length cap) l → SlB w vr (l.drop n) := by
  refine ⟨sliced p n l.length cap 1, ?_, fun w h => ?_⟩
  · show (if 0 ≤ (n : Int) ∧ (n : Int) ≤ (l.length : Int) then some (sliced p (n : Int).toNat l.length cap 1) else none) = _
    rw [if_pos (by omega), Int.toNat_natCast]
  · unfold sliced
    refine ⟨_, cap - n, by rw [List.length_drop], by rw [List.length_drop]; omega, ?_⟩
    by_cases e : n = l.length
    · left; rw [e, List.drop_length]
    · right
      obtain ⟨b, off, cap', e1, _, hb, hx⟩ := slB_ne h (by omega)
      injection e1 with e2 _ e3
      subst e2 e3
      rw [if_neg (by omega)]
      refine ⟨b, off + n, by simp [Addr.add_mid], hb, fun i hi => ?_⟩
      rw [List.length_drop] at hi
      rw [Nat.add_assoc, hx (n + i) (by omega), bt_drop]
/-- s[:n]. -/
theorem cut_toB (p : Option Addr) (cap : Nat) (l : List UInt8) (n : Nat) (hn : n ≤ l.length) (hc : l.length ≤ cap) : ∃ vr, cutTB (.slice p l.length cap) (.int .i64 (n : Int)) = some vr ∧ ∀ (w : World), SlB w (.slice p l.length cap) l → SlB w vr (l.take n) := by
  refine ⟨sliced p 0 n cap 1, ?_, fun w h => ?_⟩
  · show (if 0 ≤ (n : Int) ∧ (n : Int) ≤ (cap : Int) then some (sliced p 0 (n : Int).toNat cap 1) else none) = _
    rw [if_pos (by omega), Int.toNat_natCast]
  · unfold sliced
    have hl : (l.take n).length = n := by rw [List.length_take]; omega
    refine ⟨(if cap = 0 then p else p.map (·.add (0 * 1))), cap, by rw [hl]; rfl, by rw [hl]; omega, ?_⟩
    by_cases e : n = 0
    · left; rw [e, List.take_zero]
    · right
      obtain ⟨b, off, cap', e1, _, hb, hx⟩ := slB_ne h (by omega)
      injection e1 with e2 _ e3
      subst e2 e3
      rw [if_neg (by omega)]
      refine ⟨b, off, by simp [Addr.add], hb, fun i hi => ?_⟩
      rw [hl] at hi
      rw [hx i (by omega), bt_take l n i hi]

/-! ### string(b) -/
theorem convert_bytes {w : World} {v : Value} {l : List UInt8} (h : SlB w v l) : (convert 31 9 v).run Try.prog w = .ok (.string ⟨l.toArray⟩) w := by
  obtain ⟨p, cap, rfl, hc, h⟩ := h
  rcases h with rfl | ⟨b, off, rfl, hb, h⟩
  · cases p with
    | none =>
      show (convert 31 9 (.slice none 0 cap)).run Try.prog w = _
      rw [run_convert_bytes_string w 31 9 5 none 0 cap Try.underlying31 Try.underlying5 Try.underlying9]
      rfl
    | some ad => exact run_convert_bytes_back (P := Try.prog) w 31 9 5 ad cap [] Try.underlying31 Try.underlying5 Try.underlying9 (fun j hj => by simp at hj)
  · refine run_convert_bytes_back (P := Try.prog) w 31 9 5 ⟨b, off, none⟩ cap l Try.underlying31 Try.underlying5 Try.underlying9 (fun j hj => ?_)
    rw [Addr.add_mid, h j hj]
    unfold bt
    rw [getD_in l hj]

theorem slB_uniq {w : World} {v : Value} {l l' : List UInt8} (h : SlB w v l) (h' : SlB w v l') : l = l' := by
  obtain ⟨p, cap, rfl, _⟩ := slB_shape h
  obtain ⟨p', cap', e, _⟩ := slB_shape h'
  injection e with _ hl _
  by_cases h0 : l.length = 0
  · rw [List.length_eq_zero_iff.1 h0, List.length_eq_zero_iff.1 (show l'.length = 0 by omega)]
  · obtain ⟨b, off, c, e1, _, _, hx⟩ := slB_ne h (by omega)
    obtain ⟨b', off', c', e2, _, _, hx'⟩ := slB_ne h' (by omega)
    rw [e1] at e2
    injection e2 with e3
    injection e3 with e3
    injection e3 with e4 e5
    subst e4 e5
    refine bt_ext hl fun i hi => ?_
    have h1 := hx i (by omega)
    rw [hx' i hi] at h1
    injection h1 with h1
    injection h1 with _ h1
    exact h1.symm
open Classical in
/-- The string that bytes are. -/
noncomputable def strB (w : World) (v : Value) : Option Value := if h : ∃ l, SlB w v l then some (.string ⟨(Classical.choose h).toArray⟩) else none
theorem strB_of {w : World} {v : Value} {l : List UInt8} (h : SlB w v l) : strB w v = some (.string ⟨l.toArray⟩) := by
  unfold strB
  rw [dif_pos ⟨l, h⟩, slB_uniq (Classical.choose_spec (⟨l, h⟩ : ∃ l, SlB w v l)) h]
@[go_sem ↓] theorem convert_str (ρ : Operand → Value) (dst : Option Tmp) (x : Operand) (ty : TypeId) (pos : String) (after : Array Edge) (guard : Option (Nat × Bool)) (w : World) :
    (execOp ρ { dst, op := .convert 31 9 x, type := ty, pos, after, guard }).run Try.prog w = vOut (strB w (ρ x)) w (opRest Try.prog ρ { dst, op := .convert 31 9 x, type := ty, pos, after, guard } w) := by
  cases h : strB w (ρ x) with
  | none => rfl
  | some v =>
    unfold strB at h
    split at h
    · rename_i hl
      have hv := Option.some.inj h
      subst hv
      unfold execOp
      simp only [Sem.run_bind, convert_bytes (Classical.choose_spec hl), Result.andThen_ok]
      rfl
    · cases h
theorem strB_wd {w0 : World} {v : Value} {l : List UInt8} (h : SlB w0 v l) (p : Wd w0) : strB p.w v = some (.string ⟨l.toArray⟩) := strB_of (slB_keep p.h h)

/-! ### An argument -/
section
open Go.WideShapes Go.ChangeShapes
variable {H : Type} {enc : TypeId × Value → H} {w : World} {base : Nat} {sp : Nat → Bool} {held : Bool}
theorem open_bytes {r : Reach} {b0 : Nat} {v : Value} {d : DataW H} {ps : List MemPlace} (hval : Value.okWide Try.prog w r b0 31 v) (hd : DataW.Trod enc Try.prog w base sp held 31 v d ps) : ∃ l : List UInt8, SlB w v l := by
  obtain ⟨a, len, cap, rfl⟩ := okWide_slice Try.underlying31 hval
  obtain ⟨fuel, hf⟩ := hd
  rcases Deep.open_slice1 Try.underlying31 (by kernel_rfl) hf with ⟨h1, _⟩ | ⟨a', len', cap', m, n, V, D, Pl, h1, _, hl, hm, hmm, _, hx⟩
  · simp [Value.cells] at h1
    obtain ⟨rfl, rfl, rfl⟩ := h1
    exact ⟨[], slB_nil _ _ _⟩
  · simp [Value.cells] at h1
    obtain ⟨rfl, rfl, rfl⟩ := h1
    have hle : len ≤ m := by rw [hmm]; split <;> omega
    by_cases h0 : len = 0
    · subst h0
      exact ⟨[], slB_nil _ _ _⟩
    · have hr : ∀ i, i < len → ∃ x : UInt8, w.cell? (a'.add i) = some (.int .u8 (x.toNat : Int)) := fun i hi => by
        obtain ⟨h1, h2⟩ := hx i (by omega)
        obtain ⟨n, e1, _, e3⟩ := DataW.trod_int Try.underlying5 h2
        have hb : (decide (IntKind.u8.min ≤ n) && decide (n ≤ IntKind.u8.max)) = true := e3
        rw [Bool.and_eq_true, decide_eq_true_eq, decide_eq_true_eq, show IntKind.u8.min = 0 from rfl, show IntKind.u8.max = 255 from rfl] at hb
        have e4 : V i = .int .u8 n := (List.cons.inj e1).1
        refine ⟨UInt8.ofNat n.toNat, ?_⟩
        rw [h1, e4]
        simp
        omega
      obtain ⟨b, off, s⟩ := a'
      obtain rfl : s = none := by
        obtain ⟨x, h⟩ := hr 0 (by omega)
        rw [show (⟨b, off, s⟩ : Addr).add 0 = ⟨b, off, s⟩ by simp [Addr.add]] at h
        exact cell_spot h
      obtain ⟨f, hf2⟩ := Deep.choose_lt hr
      refine ⟨(List.range len).map f, some ⟨b, off, none⟩, cap, by simp, by simpa using hl, .inr ⟨b, off, rfl, ?_, fun i hi => ?_⟩⟩
      · have := hf2 0 (by omega)
        rw [Addr.add_mid] at this
        exact block_lt_of_cell this
      · have hi' : i < len := by simpa using hi
        have := hf2 i hi'
        rw [Addr.add_mid] at this
        rw [this]
        unfold bt
        rw [getD_in _ hi]
        simp
end
end Go.Proofs.Ytjdpndclgmdahaa
