import Derived.ChangeSame
import Derived.Test.YtkalofboioffiaaGreatQ02
import Derived.Outline
import Derived.Lib.Hide
import Derived.Carry
import Derived.Deep.Slices
import Derived.OpenShut
import Derived.Maps.AppendAt
import Derived.Deep.RegionLaw
import Derived.Laws.AppendOwnNone
import Derived.Laws.MakeOwn
import Derived.Laws.CopyOwn
namespace Go.Proofs.YtkalofboioffiaaGreat
open Go.RowKit
set_option maxRecDepth 200000
set_option maxHeartbeats 64000000
section
open Go.WideShapes Go.ChangeShapes
open Go.RowKit Go.WideShapes Go.ChangeShapes
section
variable {H : Type} {enc : TypeId × Value → H} {P : Program}
theorem post_of_below {f : Func} {s : ChangeSpec} {apart fresh handsOn again : Bool} {W W' : World} {args : Array Value} {v : Value} {ds gs : List (DataW H)} {before pa pv : List MemPlace}
  (hW : DataW.Whole enc P f.params.toList s.vars apart W args.toList ds gs before)
  (hres : ∀ (b : Nat) (sp : Nat → Bool) (hd : Bool), DataW.TrodAll enc P W' b sp hd f.resultTypes.toList (v.resultList f.resultTypes.size) (s.fn H (ds ++ gs)).results [])
  (hargs : ∀ sp : Nat → Bool, (∀ p ∈ before, sp p.block = true) → DataW.TrodAll enc P W' 0 sp true f.params.toList args.toList (s.fn H (ds ++ gs)).args pa)
  (hvars : ∀ sp : Nat → Bool, (∀ p ∈ before, sp p.block = true) → DataW.TrodVars enc P W' sp s.vars (s.fn H (ds ++ gs)).vars pv)
  (hps : before = pa ++ pv) (hb : Below W.heap.size W W')
  (hok : ∀ (j : Nat) (t : TypeId) (r : Value), f.resultTypes[j]? = some t → (v.resultList f.resultTypes.size)[j]? = some r → Value.okWide P W' .any 0 t r) :
  s.post enc P f apart fresh handsOn again W args v W' := by
 have hlt : ∀ p ∈ before, p.block < W.heap.size := fun p hp => hW.lt p hp
 have hold : ∀ p ∈ before, (fun b => decide (b < W.heap.size)) p.block = true := fun p hp => by simpa using hlt p hp
 refine ⟨ds, gs, before, [], pa, pv, hW, hres _ _ _, hargs _ hold, hvars _ hold, World.keptBut_mono (fun p hp => ⟨hp, ?_⟩) (hb.frame (· ∈ before)), fun _ => ?_⟩
 ·
  rw [hps, List.mem_append] at hp
  exact Or.inr hp
 ·
  obtain ⟨_, _, _, _, _, hz, hn⟩ := hW
  refine ⟨hok, _, _, ([] ++ pa) ++ pv, ⟨[] ++ pa, pv, trodAll_append (hargs _ (fun _ _ => rfl)) (hres _ _ _), hvars _ (fun _ _ => rfl), rfl, ?_, ?_⟩, ?_⟩
  ·
   intro b off hp
   have hin : MemPlace.cell b off ∈ before := by rw [hps]; simpa using hp
   rw [hb.frozen (hlt _ hin)]
   exact hz b off hin
  ·
   intro ha
   have := hn ha
   rw [hps] at this
   simpa using this
  ·
   intro p hp _
   rw [hps]
   simpa using hp
end
end
section
open Go.RowKit
structure Lie (α : Type) where
 t : TypeId
 n : Nat
 enc : α → List Value
 pos : 0 < n
 len : ∀ a, (enc a).length = n
 one : ∀ a, ∀ u ∈ enc a, u.oneCell' = true
section
variable {α : Type} {E : Lie α}
def zaq (E : Lie α) (l : List α) : List Value := l.flatMap E.enc
theorem zds (E : Lie α) (a : α) (l : List α) : zaq E (a :: l) = E.enc a ++ zaq E l := rfl
theorem zdy (E : Lie α) (k l : List α) : zaq E (k ++ l) = zaq E k ++ zaq E l := by simp [zaq]
theorem zbt (E : Lie α) : ∀ l : List α, (zaq E l).length = l.length * E.n
 | [] => by simp [zaq]
 | a :: l => by rw [zds, List.length_append, E.len, zbt E l, List.length_cons, Nat.add_mul, Nat.one_mul, Nat.add_comm]
theorem zi4 (E : Lie α) : ∀ (l : List α) (i j : Nat) (h : i < l.length), j < E.n → (zaq E l)[i * E.n + j]? = (E.enc l[i])[j]?
 | a :: l, 0, j, _, hj => by
  rw [zds, Nat.zero_mul, Nat.zero_add, List.getElem?_append_left (by rw [E.len]; exact hj)]; rfl
 | a :: l, i + 1, j, h, hj => by
  rw [zds, List.getElem?_append_right (by rw [E.len, Nat.add_mul]; omega), E.len, show (i + 1) * E.n + j - E.n = i * E.n + j by rw [Nat.add_mul]; omega, zi4 E l i j (by simpa using h) hj]
  rfl
theorem zsq (E : Lie α) (l : List α) : ∀ u ∈ zaq E l, u.oneCell' = true := fun u h => by
 obtain ⟨a, _, ha⟩ := List.mem_flatMap.1 h
 exact E.one a u ha
def SlE (E : Lie α) (w : World) (v : Value) (l : List α) : Prop :=
 ∃ p cap, v = .slice p l.length cap ∧ l.length ≤ cap ∧ (l = [] ∨ ∃ b off, p = some ⟨b, off, none⟩ ∧ b < w.heap.size ∧ w.rangeAt b off (zaq E l))
theorem zbr (E : Lie α) (w : World) (p : Option Addr) (cap : Nat) : SlE E w (.slice p 0 cap) [] := ⟨p, cap, rfl, Nat.zero_le _, .inl rfl⟩
theorem zar {w : World} {v : Value} {l : List α} (h : SlE E w v l) : ∃ p cap, v = .slice p l.length cap ∧ l.length ≤ cap := by
 obtain ⟨p, cap, rfl, hc, _⟩ := h
 exact ⟨p, cap, rfl, hc⟩
theorem z1v {w : World} {v : Value} {l : List α} {n : Nat} (h : SlE E w v l) (hn : l.length = n) : ∃ p cap, v = .slice p n cap := by
 subst hn
 obtain ⟨p, cap, e, _⟩ := zar h
 exact ⟨p, cap, e⟩
theorem zad {w w' : World} (g : Below w.heap.size w w') {v : Value} {l : List α} (h : SlE E w v l) : SlE E w' v l := by
 obtain ⟨p, cap, rfl, hc, h⟩ := h
 refine ⟨p, cap, rfl, hc, h.imp id ?_⟩
 rintro ⟨b, off, rfl, hb, h⟩
 exact ⟨b, off, rfl, Nat.lt_of_lt_of_le hb g.size, zfu g h⟩
theorem zdm {w : World} {v : Value} {l : List α} (h : SlE E w v l) (hn : 0 < l.length) : ∃ b off cap, v = .slice (some ⟨b, off, none⟩) l.length cap ∧ l.length ≤ cap ∧ b < w.heap.size ∧ w.rangeAt b off (zaq E l) := by
 obtain ⟨p, cap, rfl, hc, h⟩ := h
 obtain ⟨b, off, rfl, hb, h⟩ := h.resolve_left (fun e => by rw [e] at hn; simp at hn)
 exact ⟨b, off, cap, rfl, hc, hb, h⟩
theorem zje {w : World} {b off : Nat} {l : List α} (h : w.rangeAt b off (zaq E l)) {i : Nat} (hi : i < l.length) : w.rangeAt b (off + i * E.n) (E.enc l[i]) := fun j v hv => by
 have hj : j < E.n := by have := (List.getElem?_eq_some_iff.1 hv).1; rwa [E.len] at this
 rw [Nat.add_assoc]
 exact h _ v (by rw [zi4 E l i j hi hj]; exact hv)
theorem zqb {w : World} {b off : Nat} {l : List α} (h : w.rangeAt b off (zaq E l)) {i : Nat} (hi : i < l.length) : ldA w (.pointer (some ⟨b, off + i * E.n, none⟩)) E.n = some (E.enc l[i]).toArray :=
 zxy (by simp [E.len]) (by simpa using zje h hi)
theorem zpd {w : World} {b off : Nat} {l : List α} (h : w.rangeAt b off (zaq E l)) {i : Nat} (hi : i < l.length) {j : Nat} {v : Value} (hv : (E.enc l[i])[j]? = some v) : w.cell? ⟨b, off + i * E.n + j, none⟩ = some v := zje h hi j v hv
theorem zly {w w' : World} {b off : Nat} {cs : List Value} (hb : w'.heap[b]? = w.heap[b]?) (h : w.rangeAt b off cs) : w'.rangeAt b off cs := fun j v hv => by
 rw [World.cell?_of_block (a := ⟨b, off + j, none⟩) hb]; exact h j v hv
theorem zd6 {w w' : World} {v : Value} {l : List α} (h : SlE E w v l) (hs : w.heap.size ≤ w'.heap.size) (hb : ∀ b, b < w.heap.size → v.ownBlock = some b → w'.heap[b]? = w.heap[b]?) : SlE E w' v l := by
 obtain ⟨p, cap, rfl, hc, h⟩ := h
 refine ⟨p, cap, rfl, hc, h.imp id ?_⟩
 rintro ⟨b, off, rfl, hlt, h⟩
 exact ⟨b, off, rfl, Nat.lt_of_lt_of_le hlt hs, zly (hb b hlt rfl) h⟩
def OwnE (E : Lie α) (w : World) (base : Nat) (v : Value) (l : List α) : Prop := w.ownsRow base E.t E.n v l.length (zaq E l)
theorem zb3 (E : Lie α) (w : World) (base : Nat) : OwnE E w base (.slice none 0 0) [] := World.ownsRow_nil _ _ _ _
theorem zat {w : World} {base : Nat} {v : Value} {l : List α} (h : OwnE E w base v l) : SlE E w v l := by
 rcases h.2 with ⟨rfl, h0⟩ | ⟨g, cap, cur, rfl, hg1, hg2, hn1, hn2, hn3, hn4⟩
 ·
  have : l = [] := List.length_eq_zero_iff.1 h0
  subst this
  exact zbr _ _ _ _
 ·
  refine ⟨_, _, rfl, hn1, .inr ⟨g, 0, rfl, (Array.getElem?_eq_some_iff.1 hg2).1, fun j v hv => ?_⟩⟩
  have hj : j < l.length * E.n := by have := (List.getElem?_eq_some_iff.1 hv).1; rwa [zbt] at this
  rw [Nat.zero_add, cell_of_row w g j cur _ _ hg2]
  have e : (cur.toList.take (l.length * E.n))[j]? = (zaq E l)[j]? := by rw [hn4]
  rw [List.getElem?_take, if_pos hj, hv] at e
  simpa using e
theorem zei {w : World} {base : Nat} {v : Value} {l : List α} (h : OwnE E w base v l) : ∃ p cap, v = .slice p l.length cap := by
 obtain ⟨p, cap, e, _⟩ := zar (zat h)
 exact ⟨p, cap, e⟩
theorem zdg {w : World} {base : Nat} {v : Value} {l : List α} {n : Nat} (h : OwnE E w base v l) (hn : l.length = n) : ∃ p cap, v = .slice p n cap := z1v (zat h) hn
theorem zbf {w : World} {base base' : Nat} {v : Value} {l : List α} (h : OwnE E w base v l) (hb : base' ≤ base) : OwnE E w base' v l := by
 refine ⟨h.1, h.2.imp id ?_⟩
 rintro ⟨g, cap, cur, h1, h2, h3⟩
 exact ⟨g, cap, cur, h1, Nat.le_trans hb h2, h3⟩
theorem zam {w w' : World} (g : Below w.heap.size w w') {base : Nat} {v : Value} {l : List α} (h : OwnE E w base v l) : OwnE E w' base v l := by
 refine ⟨h.1, h.2.imp id ?_⟩
 rintro ⟨q, cap, cur, h1, h2, h3, h4⟩
 exact ⟨q, cap, cur, h1, h2, by rw [g.block q (Array.getElem?_eq_some_iff.1 h3).1]; exact h3, h4⟩
theorem zc7 {w w' : World} {base : Nat} {v : Value} {l : List α} (h : OwnE E w base v l) (hb : ∀ b, b < w.heap.size → v.ownBlock = some b → w'.heap[b]? = w.heap[b]?) : OwnE E w' base v l := by
 refine ⟨h.1, h.2.imp id ?_⟩
 rintro ⟨q, cap, cur, rfl, h2, h3, h4⟩
 exact ⟨q, cap, cur, rfl, h2, by rw [hb q (Array.getElem?_eq_some_iff.1 h3).1 rfl]; exact h3, h4⟩
theorem zbi {w : World} {base : Nat} {v : Value} {l : List α} (h : OwnE E w base v l) {b : Nat} (hb : v.ownBlock = some b) : base ≤ b ∧ b < w.heap.size := World.ownsRow.lt h b hb
theorem zos {w : World} {base R o : Nat} {v : Value} {l : List α} (h : OwnE E w base v l) (hR : R < base) (x : Value) : OwnE E (w.setCell ⟨R, o, none⟩ x) base v l :=
 zc7 h fun b _ hb => by
  have := (zbi h hb).1
  rw [Below.heap_setCell _ _ _ _ (show b ≠ R by omega)]
theorem zdp {w : World} {base R o : Nat} {v x : Value} {l : List α} (h : OwnE E w base v l) (hR : R < base) : OwnE E (stA w (.pointer (some ⟨R, o, none⟩)) x) base v l :=
 zc7 h fun b _ hb => by
  have := (zbi h hb).1
  exact zdf (show b ≠ R by omega)
theorem zba {w : World} {base : Nat} {v : Value} {l : List α} (h : OwnE E w base v l) (o : Obj) : OwnE E (w.alloc o) base v l := World.ownsRow.alloc h o
theorem ynb {w : World} {base : Nat} {v : Value} {l : List α} (h : OwnE E w base v l) {b : Nat} (hb : w.heap.size ≤ b) : v.ownBlock ≠ some b := fun e => by
 have := (zbi h e).2
 omega
theorem zej (w : World) (l : List α) (n : Nat) (t : TypeId) (c : Array Value) (b : Nat) (hn : l.length = n) (hb : b = w.heap.size) (hc : c.toList = zaq E l) : SlE E (w.alloc (.cells c t)) (.slice (some ⟨b, 0, none⟩) n n) l := by
 subst hn hb
 refine ⟨_, _, rfl, Nat.le_refl _, .inr ⟨w.heap.size, 0, rfl, by simp, fun j v hv => ?_⟩⟩
 rw [Nat.zero_add, cell_of_row _ _ j _ _ _ (heap_alloc_last w _), ← Array.getElem?_toList, hc]
 exact hv
def Gr (w : World) (v : Value) (w' : World) (v' : Value) : Prop := w.grownBy w' v.ownBlock ∧ (v'.ownBlock = v.ownBlock ∨ ∀ k, v'.ownBlock = some k → w.heap.size ≤ k)
theorem Gr.refl (w : World) (v : Value) : Gr w v w v := ⟨⟨rfl, rfl, rfl, Nat.le_refl _, fun _ _ _ => rfl⟩, .inl rfl⟩
theorem Gr.below {w w' : World} {v v' : Value} (h : Gr w v w' v') {base : Nat} (hb : base ≤ w.heap.size) (hv : ∀ k, v.ownBlock = some k → base ≤ k) : Below base w w' := (Below.refl base w).grown h.1 hb hv
theorem Gr.own {w w' : World} {v v' : Value} (h : Gr w v w' v') {base : Nat} {l : List α} (ho : OwnE E w base v l) (hb : base ≤ w.heap.size) : Below base w w' := h.below hb (fun _ hk => (zbi ho hk).1)
theorem Gr.alloc {w : World} {o : Obj} {w' : World} {v v' : Value} (h : Gr (w.alloc o) v w' v') : Gr w v w' v' := by
 obtain ⟨hg, ho⟩ := h
 have hs := hg.size
 have e : (w.alloc o).heap.size = w.heap.size + 1 := by simp
 refine ⟨⟨hg.os, hg.tape, hg.output, by omega, fun q hq hne => ?_⟩, ho.imp id fun h k hk => by have := h k hk; omega⟩
 rw [hg.block q (by omega) hne, Below.heap_alloc w o q hq]
theorem Gr.block {w w' : World} {v v' : Value} (h : Gr w v w' v') {b : Nat} (hb : b < w.heap.size) (hne : v.ownBlock ≠ some b) : w'.heap[b]? = w.heap[b]? := h.1.block b hb (fun e => hne e.symm)
theorem Gr.heap {w w' : World} {v v' : Value} (h : Gr w v w' v') {g : Nat} {ob : Obj} (hg : w.heap[g]? = some ob) (hne : v.ownBlock ≠ some g) : w'.heap[g]? = some ob := by
 rw [h.block (Array.getElem?_eq_some_iff.1 hg).1 hne]; exact hg
def SepE (u v : Value) : Prop := ∀ b, u.ownBlock = some b → v.ownBlock ≠ some b
theorem yc4 {w w' : World} {base : Nat} {u v u' : Value} {l : List α} (h : SepE u v) (ho : OwnE E w base v l) (g : Gr w u w' u') : SepE u' v := by
 intro b hb hv
 rcases g.2 with g2 | g2
 ·
  rw [g2] at hb; exact h b hb hv
 ·
  have := g2 b hb
  have := (zbi ho hv).2
  omega
theorem z7n {w w' : World} {base : Nat} {u v v' : Value} {l : List α} (h : SepE u v) (ho : OwnE E w base u l) (g : Gr w v w' v') : SepE u v' := by
 intro b hb hv
 rcases g.2 with g2 | g2
 ·
  rw [g2] at hv; exact h b hb hv
 ·
  have := g2 b hv
  have := (zbi ho hb).2
  omega
theorem yca {w w' : World} {base : Nat} {u v u' : Value} {l : List α} (h : SepE u v) (ho : OwnE E w base v l) (g : Gr w u w' u') : OwnE E w' base v l :=
 zc7 ho fun b hlt hb => g.block hlt fun e => h b e hb
theorem z6x {w w' : World} {base : Nat} {u v v' : Value} {l : List α} (h : SepE u v) (ho : OwnE E w base u l) (g : Gr w v w' v') : OwnE E w' base u l :=
 zc7 ho fun b hlt hb => g.block hlt fun e => h b hb e
variable {P : Program}
structure Known (P : Program) (E : Lie α) (T : TypeId) : Prop where
 slice : P.underlying T = some (.slice E.t)
 info : ∃ (z : Value) (bytes : Nat), (P.info? E.t).map (fun i => (i.zero, i.size, i.bytes)) = some (some z, E.n, bytes) ∧ z.cells.size = E.n ∧ bytes ≤ 100000
theorem zh0 {w : World} (base : Nat) (t ty e : TypeId) (i : TypeInfo) (size : Nat) (ht : P.underlying t = some (.slice e)) (hi : P.info? e = some i)
  (v : Value) (n : Nat) (xs : List Value) (hown : w.ownsRow base e size v n xs) (p : Option Addr) (c : Nat) :
  (Builtin.append_ #[t, t] ty #[v, .slice p 0 c]).run P w = .ok v w := by
 rcases hown.2 with ⟨rfl, rfl⟩ | ⟨g, cap, cur, rfl, _, _, hnc, _⟩
 ·
  cases p <;> simp [Builtin.append_, run_underlying ht, sizeOf, typeInfo, hi, Builtin.lenOf, Builtin.firstCells, loadCells, loadCellsFrom]
 ·
  cases p <;> simp [Builtin.append_, run_underlying ht, sizeOf, typeInfo, hi, Builtin.lenOf, Builtin.firstCells, loadCells, loadCellsFrom, hnc, storeCells]
theorem zq9 {w : World} {b off : Nat} {cs : List Value} (h : w.rangeAt b off cs) : ∀ (j : Nat) (u : Value), cs[j]? = some u → w.cell? ((⟨b, off, none⟩ : Addr).add j) = some u := fun j u hu => by
 rw [Addr.add_mid]; exact h j u hu
theorem znv {T : TypeId} (K : Known P E T) (w : World) (ty : TypeId) (base : Nat) (v : Value) (k : List α) (hown : OwnE E w base v k) (vx : Value) (l : List α) (hsl : SlE E w vx l) (hlen : k.length + l.length ≤ 1000000) (hbase : base ≤ w.heap.size) :
  ∃ v' w', (Builtin.append_ #[T, T] ty #[v, vx]).run P w = .ok v' w' ∧ OwnE E w' base v' (k ++ l) ∧ Gr w v w' v' := by
 obtain ⟨z, bytes, hinf, hzs, hby⟩ := K.info
 obtain ⟨i, hi, hz0, hz1, hz2⟩ := info_parts hinf
 by_cases hn : l = []
 ·
  subst hn
  obtain ⟨p, cap, rfl, _⟩ := hsl
  exact ⟨v, w, zh0 (P := P) (w := w) base T ty E.t i E.n K.slice hi v k.length _ hown p cap, by simpa using hown, Gr.refl _ _⟩
 ·
  obtain ⟨b, off, cap, rfl, _, _, hc⟩ := zdm hsl (List.length_pos_iff.2 hn)
  have hb : (k.length + l.length) * bytes ≤ 140737488355328 := Nat.le_trans (Nat.mul_le_mul hlen hby) (by decide)
  obtain ⟨v', w', h1, h2, h3, _, h5⟩ := run_append_own_at (P := P) w base T ty E.t i z E.n bytes K.slice hi hz0 hz1 hz2 hzs E.pos v k.length (zaq E k) hown ⟨b, off, none⟩ l.length cap (zaq E l) (zbt E l) (zq9 hc) (zsq E l) (by unfold maxLen; omega) hb hbase
  refine ⟨v', w', h1, ?_, h3, h5.imp id fun e q hq => ?_⟩
  ·
   unfold OwnE; rw [List.length_append, zdy]; exact h2
  ·
   rw [e] at hq; injection hq with hq; omega
theorem z2i {T : TypeId} (K : Known P E T) (w : World) {o : Oper} {a : Act} {K' : Act → World → Prop} {Q : Exit → Act → World → Prop} (s x : Operand)
  (ho : o.op = .call { callee := .builtin .append, args := #[s, x], argTypes := #[T, T] })
  (base : Nat) (v : Value) (k : List α) (hs : a.eval s = v) (hown : OwnE E w base v k) (vx : Value) (l : List α) (hx : a.eval x = vx) (hsl : SlE E w vx l)
  (hlen : k.length + l.length ≤ 1000000) (hbase : base ≤ w.heap.size)
  (h : ∀ v' w', OwnE E w' base v' (k ++ l) → Gr w v w' v' → K' (a.put o.dst v') w') : o.wp P a w K' Q := by
 obtain ⟨v', w', hr, h2, h3⟩ := znv K w o.type base v k hown vx l hsl hlen hbase
 unfold Oper.wp execOp
 simp only [ho, resolve, invoke, builtin, Sem.run_bind, Sem.run_pure, Result.andThen_ok, List.map_toArray, List.map_cons, List.map_nil, hs, hx, hr]
 exact h v' w' h2 h3
theorem zbs {T : TypeId} (K : Known P E T) (w : World) {ops : Array Oper} {rest : List Oper} {o : Oper} {a : Act} {Q : Exit → Act → World → Prop} (hgd : o.guard = none) (s x : Operand)
  (ho : o.op = .call { callee := .builtin .append, args := #[s, x], argTypes := #[T, T] })
  (base : Nat) (v : Value) (k : List α) (hs : a.eval s = v) (hown : OwnE E w base v k) (vx : Value) (l : List α) (hx : a.eval x = vx) (hsl : SlE E w vx l)
  (hlen : k.length + l.length ≤ 1000000) (hbase : base ≤ w.heap.size)
  (h : ∀ v' w', OwnE E w' base v' (k ++ l) → Gr w v w' v' → wpList P ops Q rest (a.put o.dst v') w') : wpList P ops Q (o :: rest) a w :=
 wpList_plain hgd fun _ hK => z2i K w s x ho base v k hs hown vx l hx hsl hlen hbase fun v' w' h2 h3 => hK _ _ (h v' w' h2 h3)
theorem zbe {f : FuncId} {fn : Func} (hf : P.funcs[f]? = some fn) (hname : (fn.name == "runtime.NumGoroutine") = false) (hb : fn.body.isNone = false) : ∀ args w, (callFunc f args).run P w = .ok (.enter f args) w := fun args w => by
 have h1 : fn.name ≠ "runtime.NumGoroutine" := by simpa using hname
 have h2 : ¬ fn.body = none := fun e => by rw [e] at hb; cases hb
 simp [callFunc, hf, h1, h2]
theorem z71 (w : World) {ops : Array Oper} {o : Oper} {a : Act} {K : Act → World → Prop} {Q : Exit → Act → World → Prop} {G : Prop} (hgd : o.guard = none) {f : FuncId} {xs : Array Operand} {ts : Array TypeId}
  (ho : o.op = .call { callee := .value (.func f), args := xs, argTypes := ts }) (hen : ∀ args w, (callFunc f args).run P w = .ok (.enter f args) w)
  (args : Array Value) (hargs : xs.toList.map a.eval = args.toList) (h : Calls P f args w fun e w' => ∃ v, e = .returned v ∧ K (a.put o.dst v) w') : if Region.wanted o (yielded ops a.tmps) = true then Oper.wp P o a w K Q else G := by
 have hw : Region.wanted o (yielded ops a.tmps) = true := by simp [Region.wanted, hgd]
 rw [if_pos hw]
 have hargs : xs.map a.eval = args := Array.toList_inj.1 (by rw [Array.toList_map]; exact hargs)
 subst hargs
 have : (execOp a.eval o).run P w = .ok (.enter f (xs.map a.eval)) w := by
  unfold execOp
  simp [ho, resolve, invoke, Act.eval, Deferred.ofValue, hen]
 unfold Oper.wp
 rw [this]
 exact Calls.mono h fun e w'' ⟨v, he, hk⟩ => by subst he; exact hk
def z0f (n : Nat) (v lo : Value) : Option Value :=
 match v, lo with
 | .slice a len cap, .int _ l => if 0 ≤ l ∧ l ≤ len then some (sliced a l.toNat len cap n) else none
 | _, _ => none
def zg7 (o : Option Value) (w : World) (r : Result Next) : Result Next :=
 match o with
 | some v => .ok (.value v) w
 | none => r
@[go_sem] theorem yop (v : Value) (w : World) (r : Result Next) : zg7 (some v) w r = .ok (.value v) w := rfl
theorem znx {T e : TypeId} {n : Nat} (hT : P.underlying T = some (.slice e)) (hs : ∀ w, (Go.sizeOf e).run P w = .ok n w) (ρ : Operand → Value) (dst : Option Tmp) (x lo : Operand) (ty : TypeId) (pos : String) (after : Array Edge) (guard : Option (Nat × Bool)) (w : World) :
  (execOp ρ { dst, op := .slice T x (some lo) none none, type := ty, pos, after, guard }).run P w = zg7 (z0f n (ρ x) (ρ lo)) w (zbn P ρ { dst, op := .slice T x (some lo) none none, type := ty, pos, after, guard } w) := by
 have hu : P.underlying T = some (.slice (P.elem T)) := by simp [Program.elem, hT]
 have he : P.elem T = e := by simp [Program.elem, hT]
 cases h : z0f n (ρ x) (ρ lo) with
 | none => rfl
 | some v =>
  unfold z0f at h
  split at h
  ·
   rename_i a len cap k l hx hl
   split at h
   ·
    rename_i hb
    have hv := Option.some.inj h
    subst hv
    unfold execOp
    simp only [hx, hl, Option.map_some, Option.map_none, Sem.run_bind]
    rw [run_sliceAt_slice w _ _ _ _ _ hu, run_slice_l w _ a len cap hu k l hb.1 hb.2, he, hs]
    rfl
   ·
    cases h
  ·
   cases h
section
open Go.WideShapes Go.ChangeShapes
variable {H : Type} {enc : TypeId × Value → H} {w : World} {base : Nat} {sp : Nat → Bool} {held : Bool}
theorem trodAllE (hl : laidOutB P = true) {W W' : World} (hb : Below W.heap.size W W') (sp : Nat → Bool) : ∀ {ts : List TypeId} {vs : List Value} {ds : List (DataW H)} {ps : List MemPlace}, (ts.all fun t => P.readableRec t && decide (t < P.types.size)) = true → DataW.TrodAll enc P W 0 (fun _ => true) true ts vs ds ps → (∀ x ∈ ps, x.block < W.heap.size) → (∀ x ∈ ps, sp x.block = true) → DataW.TrodAll enc P W' 0 sp true ts vs ds ps
 | [], [], _, _, _, h, _, _ => by
  obtain ⟨h1, h2, h3⟩ := trodAll_nil h
  subst h2 h3
  exact trodAll_mk0
 | [], _ :: _, _, _, _, h, _, _ => by
  obtain ⟨h1, _, _⟩ := trodAll_nil h
  cases h1
 | t :: ts, vs, ds, ps, hr, h, hlt, hsp => by
  obtain ⟨v, vs', d, ds', p, q, rfl, rfl, rfl, h1, h2⟩ := trodAll_cons h
  rw [List.all_cons, Bool.and_eq_true, Bool.and_eq_true, decide_eq_true_eq] at hr
  exact trodAll_cons_mk (WideElems.Trod_stays hl hr.1.1 hr.1.2 h1 (fun x hx => hb.same (hlt x (by simp [hx]))) (fun x hx => hsp x (by simp [hx])))
   (trodAllE hl hb sp hr.2 h2 (fun x hx => hlt x (by simp [hx])) (fun x hx => hsp x (by simp [hx])))
theorem ydc {w : World} {b o : Nat} {sp : Option Nat} {v : Value} (h : w.cell? ⟨b, o, sp⟩ = some v) : sp = none := by
 cases sp with
 | none => rfl
 | some k =>
  unfold World.cell? at h
  split at h <;> simp_all
theorem zj5 {T : TypeId} (hT : P.underlying T = some (.slice E.t)) (hn : P.cellsOf E.t = E.n) (hop : ∀ (n : Nat) (cs : List Value) (x : DataW H × List MemPlace), DataW.trod enc P w base sp held n E.t cs = some x → ∃ a, cs = E.enc a)
  {fuel : Nat} {v : Value} {x : DataW H × List MemPlace} (hf : DataW.trod enc P w base sp held fuel T [v] = some x) : ∃ l : List α, SlE E w v l := by
 rcases Deep.open_slice hT hf with ⟨h1, _⟩ | ⟨a', len', cap', m, n, D, Pl, h1, _, hl, hm, hmm, _, hx⟩
 ·
  have e : v = .slice none 0 0 := (List.cons.inj h1).1
  subst e
  exact ⟨[], zbr _ _ _ _⟩
 ·
  have e : v = .slice (some a') len' cap' := (List.cons.inj h1).1
  subst e
  have hle : len' ≤ m := by rw [hmm]; split <;> omega
  rw [hn] at hx
  by_cases h0 : len' = 0
  ·
   subst h0
   exact ⟨[], zbr _ _ _ _⟩
  ·
   have hr : ∀ i, i < len' → ∃ r : α, ∀ j v, (E.enc r)[j]? = some v → w.cell? ((a'.add (i * E.n)).add j) = some v := fun i hi => by
    obtain ⟨cs, h1, h2⟩ := hx i (by omega)
    obtain ⟨r, rfl⟩ := hop _ _ _ h2
    obtain ⟨_, _, h3⟩ := World.cells?_some h1
    refine ⟨r, fun j v hv => ?_⟩
    have hj : j < E.n := by have := (List.getElem?_eq_some_iff.1 hv).1; rwa [E.len] at this
    rw [h3 j hj]; exact hv
   obtain ⟨b, off, s⟩ := a'
   obtain rfl : s = none := by
    obtain ⟨r, h⟩ := hr 0 (by omega)
    have h0' : (E.enc r)[0]? = some ((E.enc r)[0]'(by rw [E.len]; exact E.pos)) := List.getElem?_eq_getElem _
    have := h 0 _ h0'
    rw [show (⟨b, off, s⟩ : Addr).add (0 * E.n) = ⟨b, off, s⟩ by simp [Addr.add], show (⟨b, off, s⟩ : Addr).add 0 = ⟨b, off, s⟩ by simp [Addr.add]] at this
    exact ydc this
   have hrI : ∀ i, i < len' → ∃ r : α, w.rangeAt b (off + i * E.n) (E.enc r) := fun i hi => by
    obtain ⟨r, h⟩ := hr i hi
    exact ⟨r, fun j v hv => by have := h j v hv; rwa [Addr.add_mid, Addr.add_mid] at this⟩
   obtain ⟨a0, ha0⟩ := hrI 0 (by omega)
   haveI : Inhabited α := ⟨a0⟩
   obtain ⟨f, hf2⟩ := Deep.choose_lt hrI
   refine ⟨(List.range len').map f, some ⟨b, off, none⟩, cap', by simp, by simpa using hl, .inr ⟨b, off, rfl, ?_, fun j v hv => ?_⟩⟩
   ·
    have h0' : (E.enc a0)[0]? = some ((E.enc a0)[0]'(by rw [E.len]; exact E.pos)) := List.getElem?_eq_getElem _
    exact block_lt_of_cell (ha0 0 _ h0')
   ·
    have hj : j < len' * E.n := by have := (List.getElem?_eq_some_iff.1 hv).1; rwa [zbt, List.length_map, List.length_range] at this
    have hi : j / E.n < len' := Nat.div_lt_of_lt_mul (by rwa [Nat.mul_comm])
    have hsplit : j = j / E.n * E.n + j % E.n := by rw [Nat.mul_comm]; exact (Nat.div_add_mod j E.n).symm
    have hmod : j % E.n < E.n := Nat.mod_lt _ E.pos
    rw [hsplit, zi4 E _ (j / E.n) (j % E.n) (by simpa using hi) hmod] at hv
    have hget : ((List.range len').map f)[j / E.n]'(by simpa using hi) = f (j / E.n) := by simp
    rw [hget] at hv
    have := hf2 (j / E.n) hi (j % E.n) v hv
    rwa [Nat.add_assoc, ← hsplit] at this
end
end
end
end Go.Proofs.YtkalofboioffiaaGreat
