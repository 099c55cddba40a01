import Derived.WalkKit
import Derived.Below
import Derived.Deep.WholeRow
import Derived.Deep.MidRow
import Derived.Deep.Draws
import Derived.Deep.QuietTactic
import Derived.BigQuiet
namespace Go.Proofs.YtkalofboioffiaaGreat
open Go.RowKit
set_option maxRecDepth 200000
set_option maxHeartbeats 64000000
open Go.RowKit
section
variable {P : Program}
def ldA (w : World) (v : Value) (n : Nat) : Option (Array Value) :=
 match v with
 | .pointer (some ⟨b, o, none⟩) => ((List.range n).mapM fun j => w.cell? ⟨b, o + j, none⟩).map List.toArray
 | _ => none
def wrA (w : World) (v : Value) (n : Nat) : Bool :=
 match v with
 | .pointer (some ⟨b, o, none⟩) => (List.range n).all fun j => (w.cell? ⟨b, o + j, none⟩).isSome && !w.frozen? ⟨b, o + j, none⟩
 | _ => false
def stA (w : World) (v : Value) (x : Value) : World :=
 match v, x with
 | .pointer (some ⟨b, o, none⟩), .agg c => w.setCells b o c.toList
 | _, _ => w
def okA (n : Nat) (x : Value) : Bool :=
 match x with
 | .agg c => c.size == n && c.all (·.oneCell')
 | _ => false
theorem zt0 {α β : Type} (f : α → Option β) : ∀ (l : List α) (r : List β), l.mapM f = some r → r.length = l.length ∧ ∀ (j : Nat) (x : α), l[j]? = some x → ∃ y, r[j]? = some y ∧ f x = some y
 | [], r, h => by simp at h; subst h; simp
 | a :: l, r, h => by
  rw [List.mapM_cons] at h
  simp only [bind, Option.bind_eq_some_iff, pure, Option.some.injEq] at h
  obtain ⟨y, hy, ys, hys, rfl⟩ := h
  obtain ⟨h1, h2⟩ := zt0 f l ys hys
  refine ⟨by simp [h1], fun j x hx => ?_⟩
  cases j with
  | zero => simp at hx; subst hx; exact ⟨y, by simp, hy⟩
  | succ j => simpa using h2 j x (by simpa using hx)
theorem zri {α β : Type} (f : α → Option β) : ∀ (l : List α) (r : List β), r.length = l.length → (∀ (j : Nat) (x : α) (y : β), l[j]? = some x → r[j]? = some y → f x = some y) → l.mapM f = some r
 | [], r, hl, _ => by simp at hl; simp [hl]
 | a :: l, [], hl, _ => by simp at hl
 | a :: l, y :: r, hl, h => by
  rw [List.mapM_cons, h 0 a y (by simp) (by simp), zri f l r (by simpa using hl) (fun j x z hx hz => h (j + 1) x z (by simpa using hx) (by simpa using hz))]
  rfl
theorem zto {w : World} {b o n : Nat} {c : Array Value} (h : ldA w (.pointer (some ⟨b, o, none⟩)) n = some c) : c.size = n ∧ w.rangeAt b o c.toList := by
 simp only [ldA, Option.map_eq_some_iff] at h
 obtain ⟨l, hl, rfl⟩ := h
 obtain ⟨h1, h2⟩ := zt0 _ _ _ hl
 refine ⟨by simpa using h1, fun j v hv => ?_⟩
 have hj : j < l.length := by
  have := (List.getElem?_eq_some_iff.1 (by simpa using hv : l[j]? = some v)).1; exact this
 obtain ⟨y, hy, hc⟩ := h2 j j (by rw [List.getElem?_range (by simpa [h1] using hj)])
 have : v = y := by
  have e : l[j]? = some v := by simpa using hv
  rw [e] at hy; exact Option.some.inj hy
 subst this
 exact hc
theorem ztn {w : World} {b o n : Nat} {c : Array Value} (hn : c.size = n) (h : w.rangeAt b o c.toList) : ldA w (.pointer (some ⟨b, o, none⟩)) n = some c := by
 simp only [ldA]
 rw [zri _ (List.range n) c.toList (by simpa using hn) (fun j x y hx hy => ?_)]
 ·
  simp
 ·
  have hx' : x = j := by
   have := List.getElem?_eq_some_iff.1 hx
   obtain ⟨_, e⟩ := this
   simpa using e.symm
  subst hx'
  exact h x y hy
theorem ztm {w w' : World} {b o n : Nat} (h : ∀ j, j < n → w'.cell? ⟨b, o + j, none⟩ = w.cell? ⟨b, o + j, none⟩) : ldA w' (.pointer (some ⟨b, o, none⟩)) n = ldA w (.pointer (some ⟨b, o, none⟩)) n := by
 simp only [ldA]
 congr 1
 have : ∀ l : List Nat, (∀ j ∈ l, j < n) → l.mapM (fun j => w'.cell? ⟨b, o + j, none⟩) = l.mapM (fun j => w.cell? ⟨b, o + j, none⟩) := by
  intro l
  induction l with
  | nil => intro _; rfl
  | cons a l ih =>
   intro hl
   rw [List.mapM_cons, List.mapM_cons, h a (hl a (by simp)), ih (fun j hj => hl j (by simp [hj]))]
 exact this _ (fun j hj => List.mem_range.1 hj)
theorem zd3 {w : World} {b o n : Nat} : wrA w (.pointer (some ⟨b, o, none⟩)) n = true ↔ w.there b o n := by
 simp [wrA, World.there, List.all_eq_true]
theorem z8q {w w' : World} {b o n : Nat} (h : ∀ j, j < n → w'.cell? ⟨b, o + j, none⟩ = w.cell? ⟨b, o + j, none⟩) (hf : ∀ j, j < n → w'.frozen? ⟨b, o + j, none⟩ = w.frozen? ⟨b, o + j, none⟩) : wrA w' (.pointer (some ⟨b, o, none⟩)) n = wrA w (.pointer (some ⟨b, o, none⟩)) n := by
 rw [Bool.eq_iff_iff, zd3, zd3]
 unfold World.there
 exact ⟨fun k j hj => by rw [← h j hj, ← hf j hj]; exact k j hj, fun k j hj => by rw [h j hj, hf j hj]; exact k j hj⟩
theorem zew {T : TypeId} {n : Nat} (hA : ∀ w, (isAgg T).run P w = .ok true w) (hS : ∀ w, (Go.sizeOf T).run P w = .ok n w) (w : World) (b o : Nat) (c : Array Value) (h : ldA w (.pointer (some ⟨b, o, none⟩)) n = some c) :
  (loadVar T ⟨b, o, none⟩).run P w = .ok (.agg c) w := by
 obtain ⟨hn, hr⟩ := zto h
 have hl : (loadCells ⟨b, o, none⟩ c.toList.length).run P w = .ok c.toList.toArray w :=
  run_loadCells_list (P := P) w ⟨b, o, none⟩ c.toList (fun j v hv => by rw [Addr.add_mid]; exact hr j v hv)
 rw [show c.toList.length = n by simpa using hn, Array.toArray_toList] at hl
 simp [loadVar, Sem.run_bind, hA, hS, hl]
theorem z5u {w : World} {v : Value} {n : Nat} (h : (ldA w v n).isSome = true) : ∃ b o c, v = .pointer (some ⟨b, o, none⟩) ∧ ldA w v n = some c := by
 obtain ⟨c, hc⟩ := Option.isSome_iff_exists.1 h
 have hc' := hc
 unfold ldA at hc'
 split at hc'
 ·
  rename_i b o
  exact ⟨b, o, c, rfl, hc⟩
 ·
  cases hc'
theorem zus {T : TypeId} {n : Nat} (hA : ∀ w, (isAgg T).run P w = .ok true w) (hS : ∀ w, (Go.sizeOf T).run P w = .ok n w)
  (ρ : Operand → Value) (dst : Option Tmp) (x : Operand) (ty : TypeId) (pos : String) (after : Array Edge) (guard : Option (Nat × Bool)) (w : World) (h : (ldA w (ρ x) n).isSome = true) :
  (execOp ρ { dst, op := .load T x, type := ty, pos, after, guard }).run P w = .ok (.value (.agg ((ldA w (ρ x) n).getD #[]))) w := by
 obtain ⟨b, o, c, hv, hc⟩ := z5u h
 rw [hc]
 rw [hv] at hc
 unfold execOp
 simp only [hv, Instr.loadAt, Instr.sureAddr, Sem.run_bind, Sem.run_pure, Result.andThen_ok, zew hA hS w b o c hc, Option.getD_some]
theorem zr6 {T : TypeId} {n : Nat} (hS : ∀ w, (Go.sizeOf T).run P w = .ok n w)
  (ρ : Operand → Value) (dst : Option Tmp) (x y : Operand) (ty : TypeId) (pos : String) (after : Array Edge) (guard : Option (Nat × Bool)) (w : World) (h : wrA w (ρ x) n = true) (hy : okA n (ρ y) = true) :
  (execOp ρ { dst, op := .store T x y, type := ty, pos, after, guard }).run P w = .ok .skip (stA w (ρ x) (ρ y)) := by
 obtain ⟨c, hc, hn, h1⟩ : ∃ c, ρ y = .agg c ∧ c.size = n ∧ c.all (·.oneCell') = true := by
  unfold okA at hy
  split at hy
  ·
   rename_i c hc
   rw [Bool.and_eq_true, beq_iff_eq] at hy
   exact ⟨c, hc, hy.1, hy.2⟩
  ·
   cases hy
 obtain ⟨b, o, hv⟩ : ∃ b o, ρ x = .pointer (some ⟨b, o, none⟩) := by
  unfold wrA at h
  split at h
  ·
   rename_i b o hb; exact ⟨b, o, hb⟩
  ·
   cases h
 rw [hv] at h
 have ht := zd3.1 h
 have := run_storeCells_cells (P := P) b o c.toList 0 w (fun j hj => by simpa using (ht j (by simpa [hn] using hj)).1) (fun j hj => by simpa using (ht j (by simpa [hn] using hj)).2)
  (fun v hv => (Array.all_eq_true_iff_forall_mem.1 h1) v (by simpa using hv))
 simp only [Nat.add_zero] at this
 unfold execOp
 simp only [hv, hc, stA]
 simp [Instr.storeAt, Instr.sureAddr, storeVar, hS, Value.cells, hn, this]
def zi5 (o : Option (Array Value)) (w : World) (r : Result Next) : Result Next :=
 match o with
 | some c => .ok (.value (.agg c)) w
 | none => r
@[go_sem] theorem yhl (c : Array Value) (w : World) (r : Result Next) : zi5 (some c) w r = .ok (.value (.agg c)) w := rfl
def zhv (b : Bool) (w' : World) (r : Result Next) : Result Next := if b then .ok .skip w' else r
@[go_sem] theorem yho (w' : World) (r : Result Next) : zhv true w' r = .ok .skip w' := rfl
def zbf (P : Program) (ρ : Operand → Value) (o : Oper) (w : World) : Result Next := (execOp ρ o).run P w
theorem zbq {T : TypeId} {n : Nat} (hA : ∀ w, (isAgg T).run P w = .ok true w) (hS : ∀ w, (Go.sizeOf T).run P w = .ok n w)
  (ρ : Operand → Value) (dst : Option Tmp) (x : Operand) (ty : TypeId) (pos : String) (after : Array Edge) (guard : Option (Nat × Bool)) (w : World) :
  (execOp ρ { dst, op := .load T x, type := ty, pos, after, guard }).run P w = zi5 (ldA w (ρ x) n) w (zbf P ρ { dst, op := .load T x, type := ty, pos, after, guard } w) := by
 cases h : ldA w (ρ x) n with
 | none => rfl
 | some c => rw [zus hA hS ρ dst x ty pos after guard w (by rw [h]; rfl), h]; rfl
theorem zbe {T : TypeId} {n : Nat} (hS : ∀ w, (Go.sizeOf T).run P w = .ok n w)
  (ρ : Operand → Value) (dst : Option Tmp) (x y : Operand) (ty : TypeId) (pos : String) (after : Array Edge) (guard : Option (Nat × Bool)) (w : World) :
  (execOp ρ { dst, op := .store T x y, type := ty, pos, after, guard }).run P w = zhv (wrA w (ρ x) n && okA n (ρ y)) (stA w (ρ x) (ρ y)) (zbf P ρ { dst, op := .store T x y, type := ty, pos, after, guard } w) := by
 cases h : wrA w (ρ x) n && okA n (ρ y) with
 | false => rfl
 | true =>
  rw [Bool.and_eq_true] at h
  rw [zr6 hS ρ dst x y ty pos after guard w h.1 h.2]; rfl
@[go_sem] theorem zyw (w : World) (v : Value) (n : Nat) : ldA w.drew v n = ldA w v n := by
 unfold ldA; split <;> simp
@[go_sem] theorem yi4 (w : World) (v : Value) (n k : Nat) : ldA (w.drewN k) v n = ldA w v n := rfl
@[go_sem] theorem ykc (w : World) (v : Value) (n k : Nat) : wrA (w.drewN k) v n = wrA w v n := rfl
@[go_sem] theorem yi3 (w : World) (d : Nat) (v : Value) (n : Nat) : ldA { w with drawn := d } v n = ldA w v n := rfl
@[go_sem] theorem ykb (w : World) (d : Nat) (v : Value) (n : Nat) : wrA { w with drawn := d } v n = wrA w v n := rfl
@[go_sem] theorem yi2 (w : World) (ob : Obj) (b o n : Nat) (h : b < w.heap.size) : ldA (w.alloc ob) (.pointer (some ⟨b, o, none⟩)) n = ldA w (.pointer (some ⟨b, o, none⟩)) n :=
 ztm fun _ _ => World.cell?_alloc_lt _ _ _ h
@[go_sem] theorem yka (w : World) (ob : Obj) (b o n : Nat) (h : b < w.heap.size) : wrA (w.alloc ob) (.pointer (some ⟨b, o, none⟩)) n = wrA w (.pointer (some ⟨b, o, none⟩)) n :=
 z8q (fun _ _ => World.cell?_alloc_lt _ _ _ h) (fun _ _ => World.frozen?_alloc_past _ _ _ h)
@[go_sem] theorem ya0 (w : World) (c : Array Value) (t : TypeId) (b n : Nat) (h : b = w.heap.size) (hn : c.size = n) : ldA (w.alloc (.cells c t)) (.pointer (some ⟨b, 0, none⟩)) n = some c := by
 subst h
 refine ztn hn fun j v hv => ?_
 rw [Nat.zero_add, cell_of_row _ _ j c t _ (heap_alloc_last w _)]
 simpa using hv
theorem zex (w : World) (t : TypeId) : ∀ (vs : List Value) (o : Nat) (c : Array Value), (w.alloc (.cells c t)).setCells w.heap.size o vs = w.alloc (.cells ((vs.zipIdx o).foldl (fun c p => c.setIfInBounds p.2 p.1) c) t)
 | [], _, _ => rfl
 | v :: r, o, c => by
  rw [World.setCells, World.setCell_alloc_new, zex w t r (o + 1)]
  rfl
theorem zgw : ∀ (vs : List Value) (o : Nat) (c : Array Value), (∀ j, (((vs.zipIdx o).foldl (fun c p => c.setIfInBounds p.2 p.1) c) : Array Value)[j]? = if o ≤ j ∧ j < o + vs.length ∧ j < c.size then vs[j - o]? else c[j]?)
 | [], o, c, j => by
  simp
  intros; omega
 | v :: r, o, c, j => by
  rw [List.zipIdx_cons, List.foldl_cons, zgw r (o + 1) _ j]
  simp only [Array.size_setIfInBounds, Array.getElem?_setIfInBounds, List.length_cons]
  by_cases h1 : o + 1 ≤ j ∧ j < o + 1 + r.length ∧ j < c.size
  ·
   rw [if_pos h1, if_pos (by omega), show j - o = (j - (o + 1)) + 1 by omega]
   simp
  ·
   rw [if_neg h1]
   by_cases h2 : o = j
   ·
    subst h2
    by_cases h3 : o < c.size
    ·
     rw [if_pos rfl, if_pos h3, if_pos (by omega)]; simp
    ·
     rw [if_pos rfl, if_neg h3, if_neg (by omega), Array.getElem?_eq_none (by omega)]
   ·
    rw [if_neg h2, if_neg (by omega)]
@[go_sem] theorem yct (w : World) (c c' : Array Value) (t : TypeId) (b : Nat) (h : b = w.heap.size) (hn : c.size = c'.size) : stA (w.alloc (.cells c t)) (.pointer (some ⟨b, 0, none⟩)) (.agg c') = w.alloc (.cells c' t) := by
 subst h
 show (w.alloc (.cells c t)).setCells w.heap.size 0 c'.toList = _
 rw [zex]
 congr 2
 apply Array.ext_getElem?
 intro j
 rw [zgw]
 by_cases hj : j < c'.size
 ·
  rw [if_pos (by simp; omega)]; simp
 ·
  rw [if_neg (by simp; omega), Array.getElem?_eq_none (by omega), Array.getElem?_eq_none (by omega)]
theorem zey (ob : Obj) (b : Nat) : ∀ (vs : List Value) (o : Nat) (w : World), b < w.heap.size → (w.alloc ob).setCells b o vs = (w.setCells b o vs).alloc ob
 | [], _, _, _ => rfl
 | v :: r, o, w, h => by
  rw [World.setCells, World.setCells, World.setCell_alloc_past _ _ _ _ h, zey ob b r (o + 1) _ (by simpa [World.setCell] using h)]
@[go_sem] theorem yjt (w : World) (ob : Obj) (b o : Nat) (x : Value) (h : b < w.heap.size) : stA (w.alloc ob) (.pointer (some ⟨b, o, none⟩)) x = (stA w (.pointer (some ⟨b, o, none⟩)) x).alloc ob := by
 cases x <;> try rfl
 exact zey ob b _ o w h
theorem zh3 (b : Nat) : ∀ (vs : List Value) (o : Nat) (w : World), (w.setCells b o vs).heap.size = w.heap.size
 | [], _, _ => rfl
 | v :: r, o, w => by rw [World.setCells, zh3 b r]; simp [World.setCell]
@[go_sem] theorem zzs (w : World) (v x : Value) : (stA w v x).heap.size = w.heap.size := by
 unfold stA
 split
 ·
  exact zh3 _ _ _ _
 ·
  rfl
theorem zhz (b k : Nat) : ∀ (vs : List Value) (o : Nat) (w : World), (w.drewN k).setCells b o vs = (w.setCells b o vs).drewN k
 | [], _, _ => rfl
 | v :: r, o, w => by rw [World.setCells, World.setCells, ← zhz b k r (o + 1)]; rfl
@[go_sem] theorem z75 (w : World) (v x : Value) (k : Nat) : stA (w.drewN k) v x = (stA w v x).drewN k := by
 unfold stA
 split
 ·
  exact zhz _ _ _ _ _
 ·
  rfl
theorem zar {w : World} {b n : Nat} {c : Array Value} {t : TypeId} {fr : Nat × Nat} (hb : w.heap[b]? = some (.cells c t fr)) (hn : c.size = n) : ldA w (.pointer (some ⟨b, 0, none⟩)) n = some c := by
 refine ztn hn fun j v hv => ?_
 rw [Nat.zero_add, cell_of_row _ _ j c t _ hb]
 simpa using hv
theorem zau {w : World} {b n : Nat} {c : Array Value} {t : TypeId} (hb : w.heap[b]? = some (.cells c t (0, 0))) (hn : c.size = n) : wrA w (.pointer (some ⟨b, 0, none⟩)) n = true := by
 rw [zd3]
 intro j hj
 rw [Nat.zero_add, cell_of_row _ _ j c t _ hb, frozen_of_row _ _ j c t hb]
 exact ⟨by rw [Array.getElem?_eq_getElem (by omega)]; rfl, rfl⟩
theorem ztp {w : World} {b o n : Nat} {c : Array Value} (h : wrA w (.pointer (some ⟨b, o, none⟩)) n = true) (hn : c.size = n) : ldA (stA w (.pointer (some ⟨b, o, none⟩)) (.agg c)) (.pointer (some ⟨b, o, none⟩)) n = some c := by
 refine ztn hn ?_
 exact World.rangeAt_setCells_same w b o c.toList (by rw [Array.length_toList, hn]; exact zd3.1 h)
theorem zi2 (b : Nat) (k : Nat) (hk : k ≠ b) : ∀ (vs : List Value) (o : Nat) (w : World), (w.setCells b o vs).heap[k]? = w.heap[k]?
 | [], _, _ => rfl
 | v :: r, o, w => by rw [World.setCells, zi2 b k hk r, heap_setCell_other _ _ _ _ hk]
theorem zf3 {w : World} {b o k : Nat} {x : Value} (hk : k ≠ b) : (stA w (.pointer (some ⟨b, o, none⟩)) x).heap[k]? = w.heap[k]? := by
 cases x <;> try rfl
 exact zi2 b k hk _ _ _
theorem zhy {B : Nat} {a : World} {b : Nat} (hb : B ≤ b) : ∀ (vs : List Value) (o : Nat) (w : World), Below B a w → Below B a (w.setCells b o vs)
 | [], _, _, h => h
 | v :: r, o, w, h => by rw [World.setCells]; exact zhy hb r (o + 1) _ (h.setCell hb v)
theorem zas {B : Nat} {a w : World} {b o : Nat} {x : Value} (h : Below B a w) (hb : B ≤ b) : Below B a (stA w (.pointer (some ⟨b, o, none⟩)) x) := by
 cases x <;> try exact h
 exact zhy hb _ _ _ h
theorem ztl {W w1 : World} {B : Nat} (hb : Below B W w1) (b o n : Nat) (h : b < B) : ldA w1 (.pointer (some ⟨b, o, none⟩)) n = ldA W (.pointer (some ⟨b, o, none⟩)) n :=
 ztm fun j _ => hb.cell (p := ⟨b, o + j, none⟩) h
theorem zbu {W w1 : World} (g : Below W.heap.size W w1) {b o : Nat} {cs : List Value} (h : W.rangeAt b o cs) : w1.rangeAt b o cs := fun j v hv => by
 have := h j v hv
 rw [g.cell (p := ⟨b, o + j, none⟩) (block_lt_of_cell this)]; exact this
theorem yi5 {w : World} {b o n : Nat} {c : Array Value} (h : ldA w (.pointer (some ⟨b, o, none⟩)) n = some c) (hn : 0 < n) : b < w.heap.size := by
 obtain ⟨h1, h2⟩ := zto h
 have hc : c.toList[0]? = some (c[0]'(by omega)) := by simp
 exact block_lt_of_cell (h2 0 _ hc)
theorem keep {W w1 : World} (g : Below W.heap.size W w1) {v : Value} {n : Nat} {c : Array Value} (h : ldA W v n = some c) (hn : 0 < n := by decide) : ldA w1 v n = some c := by
 obtain ⟨b, o, _, rfl, _⟩ := z5u (by rw [h]; rfl : (ldA W v n).isSome = true)
 rw [ztl g b o n (yi5 h hn), h]
structure Wd (W : World) where
 w : World
 h : Below W.heap.size W w
instance (W : World) : Inhabited (Wd W) := ⟨⟨W, Below.refl _ _⟩⟩
theorem ydn {W : World} {v : Value} {n : Nat} {c : Array Value} (h : ldA W v n = some c) (hn : 0 < n := by decide) (p : Wd W) : ldA p.w v n = some c := keep p.h h hn
end
open Go.RowKit
section
variable {P : Program} {ops : Array Oper} {E : List Nat} {L : World → World → Prop} {W : World} {Q : Exit → Act → World → Prop}
def Lq (w w' : World) : Prop := Below w.heap.size w w'
theorem Lq.refl (w : World) : Lq w w := Below.refl _ _
theorem Lq.trans {a b c : World} (h : Lq a b) (k : Lq b c) : Lq a c := Below.trans h (Below.mono k h.size)
def zcw : Op → Bool
 | .move _ => true
 | .assign _ => true
 | .pick _ _ _ => true
 | .build _ _ => true
 | .load _ _ => true
 | .binOp _ _ _ _ _ => true
 | .unOp _ _ _ => true
 | .convert _ _ _ => true
 | .slice _ _ _ _ _ => true
 | .fieldAddr _ _ _ => true
 | .field _ _ _ => true
 | .indexAddr _ _ _ => true
 | .index _ _ _ => true
 | .extract _ _ => true
 | .lookup _ _ _ _ => true
 | .call c => (match c.callee with | .builtin .len => true | .builtin .cap => true | _ => false)
 | _ => false
theorem zk5 {s : Sem Value} {w w' : World} {f : FuncId} {args : Array Value} : (do pure (Next.value (← s)) : Sem Next).run P w ≠ .ok (.enter f args) w' := by
 simp only [Sem.run_bind]
 cases s.run P w <;> simp [Result.andThen]
theorem zdx {o : Oper} (h : zcw o.op = true) {ρ : Operand → Value} {w w' : World} {f : FuncId} {args : Array Value} : (execOp ρ o).run P w ≠ .ok (.enter f args) w' := by
 obtain ⟨dst, op, type, pos, after, guard⟩ := o
 cases op
 case call c =>
  obtain ⟨callee, as, ts⟩ := c
  cases callee
  case builtin b => cases b <;> first | (simp [zcw] at h; done) | (unfold execOp; exact zk5)
  all_goals simp [zcw] at h
 case pick c x y =>
  unfold execOp
  simp only [Sem.run_bind]
  cases (asBool (ρ c)).run P w <;> simp [Result.andThen]
 case move x => unfold execOp; simp
 case assign x => unfold execOp; simp
 all_goals first | (simp [zcw] at h; done) | (unfold execOp; exact zk5)
def zc5 (P : Program) (o : Oper) (a : Act) (w : World) (v : Value) : Prop := (execOp a.eval o).run P w = .ok (.value v) w ∨ ((execOp a.eval o).run P w = .ok .skip w ∧ v = undef)
theorem zog {o : Oper} {a : Act} {w : World} {v u : Value} (h : zc5 P o a w v) (k : zc5 P o a w u) : v = u := by
 rcases h with h | ⟨h, rfl⟩ <;> rcases k with k | ⟨k, rfl⟩
 ·
  rw [h] at k; injection k with e; injection e
 ·
  rw [h] at k; injection k with e; cases e
 ·
  rw [h] at k; injection k with e; cases e
 ·
  rfl
def zh8 (P : Program) (K : Value → World → Prop) : Result Next → Prop
 | .ok (.value v) w' => K v w'
 | .ok .skip w' => K undef w'
 | .ok (.enter f args) w' => Calls P f args w' fun e w'' => ∃ v, e = .returned v ∧ K v w''
 | _ => False
def zds (P : Program) (o : Oper) (a : Act) (w : World) (K : Value → World → Prop) : Prop := zh8 P K ((execOp a.eval o).run P w)
theorem zb3 {o : Oper} {a : Act} {w : World} {K K' : Value → World → Prop} (h : ∀ v w', K v w' → K' v w') (hh : zds P o a w K) : zds P o a w K' := by
 unfold zds at *
 generalize (execOp a.eval o).run P w = r at *
 cases r with
 | ok n w' =>
  cases n <;> simp only [zh8] at hh ⊢
  case value v => exact h _ _ hh
  case skip => exact h _ _ hh
  case enter f args => exact Calls.mono hh fun e w'' ⟨v, he, hk⟩ => ⟨v, he, h _ _ hk⟩
 | halt x w' => simp only [zh8] at hh
theorem zhk {o : Oper} {a : Act} {w : World} {K : Value → World → Prop} (hh : zds P o a w K) : ∃ v w', K v w' := by
 unfold zds at *
 generalize (execOp a.eval o).run P w = r at *
 cases r with
 | ok n w' =>
  cases n <;> simp only [zh8] at hh
  case value v => exact ⟨_, _, hh⟩
  case skip => exact ⟨_, _, hh⟩
  case enter f args => obtain ⟨e, w'', _, ⟨v, _, hk⟩, _⟩ := hh []; exact ⟨v, w'', hk⟩
 | halt x w' => simp only [zh8] at hh
theorem zjx {o : Oper} {a : Act} {w : World} {K : Value → World → Prop} {K' : Act → World → Prop} (h : ∀ v w', K v w' → K' (a.put o.dst v) w') (hh : zds P o a w K) : o.wp P a w K' Q := by
 unfold zds at hh
 unfold Oper.wp
 generalize (execOp a.eval o).run P w = r at *
 cases r with
 | ok n w' =>
  cases n <;> simp only [zh8] at hh <;> simp only [Oper.upon]
  case value v => exact h _ _ hh
  case skip => exact h _ _ hh
  case enter f args => exact Calls.mono hh fun e w'' ⟨v, he, hk⟩ => by subst he; exact h _ _ hk
 | halt x w' => simp only [zh8] at hh
def zcx (o : Oper) (i : Nat) : Bool := o.after.any fun e => Region.binds .any e && e.on == i
theorem zda {o : Oper} {i : Nat} (h : zcx o i = true) : ∃ e ∈ o.after, Region.binds .any e = true ∧ e.on = i := by
 unfold zcx at h
 rw [Array.any_eq_true] at h
 obtain ⟨j, hj, h⟩ := h
 rw [Bool.and_eq_true, beq_iff_eq] at h
 exact ⟨o.after[j], Array.getElem_mem hj, h.1, h.2⟩
def clsX (L : World → World → Prop) (W : World) (σ : List (Nat × World)) (o : Oper) (w' : World) : Prop := L W w' ∧ ∀ p ∈ σ, zcx o p.1 = true → L p.2 w'
def InvX (L : World → World → Prop) (W : World) (σ : List (Nat × World)) (w : World) : Prop := L W w ∧ ∀ p ∈ σ, L p.2 w
theorem InvX.cls {σ : List (Nat × World)} {w : World} (h : InvX L W σ w) (o : Oper) : clsX L W σ o w := ⟨h.1, fun p hp _ => h.2 p hp⟩
theorem InvX.cons (lr : ∀ w, L w w) (lt : ∀ {a b c : World}, L a b → L b c → L a c) {σ : List (Nat × World)} {w w' : World} (h : InvX L W σ w) (i : Nat) (hl : L w w') : InvX L W ((i, w') :: σ) w' := by
 refine ⟨lt h.1 hl, fun p hp => ?_⟩
 rcases List.mem_cons.1 hp with rfl | hp
 ·
  exact lr _
 ·
  exact lt (h.2 p hp) hl
def xOp (L : World → World → Prop) (P : Program) (ops : Array Oper) (E : List Nat) (W : World) (i : Nat) (K : Act → World → List (Nat × World) → Prop) (a : Act) (w : World) (σ : List (Nat × World)) : Prop :=
 match ops[i]? with
 | none => K a w σ
 | some o =>
  if Region.wanted o (yielded ops a.tmps) = true then
   (if E.contains i = true then zds P o a w (fun v w' => L w w' ∧ K (a.put o.dst v) w' ((i, w') :: σ)) else ∃ v, (∀ w', clsX L W σ o w' → zc5 P o a w' v) ∧ K (a.put o.dst v) w σ)
  else K (a.put o.dst undef) w σ
theorem ydf (lr : ∀ w, L w w) (lt : ∀ {a b c : World}, L a b → L b c → L a c) {i : Nat} {K K' : Act → World → List (Nat × World) → Prop} {a : Act} {w : World} {σ : List (Nat × World)} (hi : InvX L W σ w) (h : ∀ a' w' σ', InvX L W σ' w' → K a' w' σ' → K' a' w' σ') (hh : xOp L P ops E W i K a w σ) : xOp L P ops E W i K' a w σ := by
 unfold xOp at *
 split
 ·
  exact h _ _ _ hi (by simpa [*] using hh)
 ·
  rename_i o ho
  simp only [ho] at hh
  split
  ·
   rename_i hw
   rw [if_pos hw] at hh
   split
   ·
    rename_i he
    rw [if_pos he] at hh
    exact zb3 (fun v w' ⟨hl, hk⟩ => ⟨hl, h _ _ _ (hi.cons lr lt i hl) hk⟩) hh
   ·
    rename_i he
    rw [if_neg he] at hh
    obtain ⟨v, h1, h2⟩ := hh
    exact ⟨v, h1, h _ _ _ hi h2⟩
  ·
   rename_i hw
   rw [if_neg hw] at hh
   exact h _ _ _ hi hh
def wpX (L : World → World → Prop) (P : Program) (ops : Array Oper) (E : List Nat) (W : World) (Q : Exit → Act → World → Prop) : Nat → Array Bool → Act → World → List (Nat × World) → Prop
 | 0, listed, a, w, _ => Region.ready .any ops listed = [] ∧ Q .normal a w
 | fuel + 1, listed, a, w, σ =>
  (Region.ready .any ops listed = [] → Q .normal a w) ∧
  ∀ i ∈ Region.ready .any ops listed, xOp L P ops E W i (fun a' w' σ' => wpX L P ops E W Q fuel (listed.setIfInBounds i true) a' w' σ') a w σ
theorem zem (lr : ∀ w, L w w) (lt : ∀ {a b c : World}, L a b → L b c → L a c) : ∀ (fuel : Nat) (listed : Array Bool) (a : Act) (w : World) (σ : List (Nat × World)), InvX L W σ w → wpX L P ops E W Q fuel listed a w σ → wpAny P .any ops Q fuel listed a w
 | 0, _, _, _, _, _, h => h
 | fuel + 1, listed, a, w, σ, hi, h => ⟨h.1, fun i hm => by
  have := h.2 i hm
  unfold xOp at this
  unfold wpOp
  split
  ·
   rename_i ho
   simp only [ho] at this
   exact zem lr lt fuel _ _ _ _ hi this
  ·
   rename_i o ho
   simp only [ho] at this
   split
   ·
    rename_i hw
    rw [if_pos hw] at this
    split at this
    ·
     exact .inl (zjx (fun v w' ⟨hl, hk⟩ => zem lr lt fuel _ _ _ _ (hi.cons lr lt i hl) hk) this)
    ·
     obtain ⟨v, h1, h2⟩ := this
     refine .inl (zjx (K := fun u w' => u = v ∧ w' = w) (fun u w' ⟨e1, e2⟩ => by subst e1 e2; exact zem lr lt fuel _ _ _ _ hi h2) ?_)
     have hv := h1 w (hi.cls o)
     unfold zc5 at hv
     unfold zds
     rcases hv with e1 | ⟨e1, e2⟩
     ·
      rw [e1]; exact ⟨rfl, rfl⟩
     ·
      rw [e1, e2]; exact ⟨rfl, rfl⟩
   ·
    rename_i hw
    rw [if_neg hw] at this
    exact zem lr lt fuel _ _ _ _ hi this⟩
def YX (L : World → World → Prop) (P : Program) (ops : Array Oper) (W : World) (oi : Oper) (v : Value) (a : Act) (σ : List (Nat × World)) : Prop :=
 (Region.wanted oi (yielded ops a.tmps) = true ∧ ∀ w', clsX L W σ oi w' → zc5 P oi a w' v) ∨ (Region.wanted oi (yielded ops a.tmps) = false ∧ v = undef)
theorem YX.xOp {i : Nat} {oi : Oper} {v : Value} {a : Act} {w : World} {σ : List (Nat × World)} (ho : ops[i]? = some oi) (hE : E.contains i = false ∨ Region.wanted oi (yielded ops a.tmps) = false) (h : YX L P ops W oi v a σ) {K : Act → World → List (Nat × World) → Prop} (hk : K (a.put oi.dst v) w σ) : xOp L P ops E W i K a w σ := by
 unfold Go.Proofs.YtkalofboioffiaaGreat.xOp
 simp only [ho]
 rcases h with ⟨hw, h⟩ | ⟨hw, rfl⟩
 ·
  rw [if_pos hw]
  rcases hE with hE | hE
  ·
   rw [if_neg (by rw [hE]; exact Bool.false_ne_true)]; exact ⟨v, h, hk⟩
  ·
   rw [hw] at hE; cases hE
 ·
  rw [if_neg (by rw [hw]; exact Bool.false_ne_true)]; exact hk
theorem YX.of_same {oi : Oper} {v : Value} {a a' : Act} {σ σ' : List (Nat × World)} (hy : YX L P ops W oi v a σ) (he : execOp a'.eval oi = execOp a.eval oi)
  (hw : Region.wanted oi (yielded ops a'.tmps) = Region.wanted oi (yielded ops a.tmps)) (hs : ∀ w', clsX L W σ' oi w' → clsX L W σ oi w') : YX L P ops W oi v a' σ' := by
 unfold YX zc5 at *
 rw [he, hw]
 exact hy.imp (fun ⟨h1, h2⟩ => ⟨h1, fun w' h => h2 w' (hs w' h)⟩) id
theorem z99 {σ : List (Nat × World)} {o : Oper} {p : Nat × World} {w' : World} (h : clsX L W (p :: σ) o w') : clsX L W σ o w' := ⟨h.1, fun q hq hw => h.2 q (List.mem_cons_of_mem _ hq) hw⟩
theorem zku {σ : List (Nat × World)} {o : Oper} {p : Nat × World} {w' : World} (hn : zcx o p.1 = false) (h : clsX L W σ o w') : clsX L W (p :: σ) o w' := by
 refine ⟨h.1, fun q hq hw => ?_⟩
 rcases List.mem_cons.1 hq with rfl | hq
 ·
  rw [hn] at hw; cases hw
 ·
  exact h.2 q hq hw
theorem yhh {j : Nat} {oi oj : Oper} {v : Value} (hj : ops[j]? = some oj) (hap : oi.apart ops oj = true)
  (hsi : ∀ cs b, oi.op ≠ .select cs b) (hsj : ∀ cs b, oj.op ≠ .select cs b) {K : Act → World → List (Nat × World) → Prop} {a : Act} {w : World} {σ : List (Nat × World)}
  (hy : YX L P ops W oi v a σ) (h : xOp L P ops E W j K (a.put oi.dst v) w σ) :
  xOp L P ops E W j (fun a' w' σ' => YX L P ops W oi v a' σ' ∧ K (a'.put oi.dst v) w' σ') a w σ := by
 obtain ⟨h1, h2, h3⟩ := Oper.apart_spec hap
 have keep : ∀ (u : Value) (σ' : List (Nat × World)), (∀ w', clsX L W σ' oi w' → clsX L W σ oi w') → YX L P ops W oi v (a.put oj.dst u) σ' := fun u σ' hs =>
  hy.of_same (execOp_put oi hsi a oj.dst u h3) (wanted_put oi a oj.dst u h3) hs
 unfold xOp at *
 simp only [hj] at *
 rw [wanted_put oj a oi.dst v h1] at h
 split
 ·
  rename_i hw
  rw [if_pos hw] at h
  split
  ·
   rename_i he
   rw [if_pos he] at h
   unfold zds at h ⊢
   rw [execOp_put oj hsj a oi.dst v h1] at h
   exact zb3 (P := P) (o := oj) (a := a) (w := w) (fun u w' ⟨hl, hk⟩ => ⟨hl, keep u _ (fun _ => z99), by rw [← Act.put_comm a v u h2]; exact hk⟩) h
  ·
   rename_i he
   rw [if_neg he] at h
   obtain ⟨u, hu, hn⟩ := h
   refine ⟨u, fun w' hw' => ?_, keep u _ (fun _ h => h), by rw [← Act.put_comm a v u h2]; exact hn⟩
   have := hu w' hw'
   unfold zc5 at *
   rwa [execOp_put oj hsj a oi.dst v h1] at this
 ·
  rename_i hw
  rw [if_neg hw] at h
  exact ⟨keep _ _ (fun _ h => h), by rw [← Act.put_comm a v undef h2]; exact h⟩
theorem zfr {i : Nat} {oj : Oper} {listed : Array Bool} (hr : i ∈ Region.ready .any ops listed) (hall : ∀ e ∈ oj.after, Region.binds .any e = true → listed.getD e.on false = true) : ∀ e ∈ oj.after, Region.binds .any e = true → e.on ≠ i := fun e he hb heq => by
 have h1 := hall e he hb
 have h0 := (mem_ready.1 hr).1
 rw [heq] at h1
 rcases Nat.lt_or_ge i listed.size with h' | h'
 ·
  simp [h'] at h0 h1; rw [h0] at h1; cases h1
 ·
  simp [Array.getElem?_eq_none h'] at h1
theorem zve (lr : ∀ w, L w w) (lt : ∀ {a b c : World}, L a b → L b c → L a c) {i : Nat} {oi : Oper} {v : Value} (hi : ops[i]? = some oi) (hsel : ∀ (j : Nat) (o : Oper) cs b, ops[j]? = some o → o.op ≠ .select cs b) :
  ∀ (fuel : Nat) (listed : Array Bool) (a : Act) (w : World) (σ : List (Nat × World)), InvX L W σ w →
   (∀ j oj, ops[j]? = some oj → j ≠ i → listed.getD j true = false → (∀ e ∈ oj.after, Region.binds .any e = true → e.on ≠ i) → oi.apart ops oj = true) →
   i ∈ Region.ready .any ops listed → (E.contains i = false ∨ Region.wanted oi (yielded ops a.tmps) = false) → YX L P ops W oi v a σ →
   wpX L P ops E W Q fuel (listed.setIfInBounds i true) (a.put oi.dst v) w σ → wpX L P ops E W Q (fuel + 1) listed a w σ := by
 intro fuel
 induction fuel with
 | zero =>
  intro listed a w σ _ _ hr hE hy H
  refine ⟨fun h => (by rw [h] at hr; cases hr), fun j hj => ?_⟩
  by_cases hji : j = i
  ·
   subst hji; exact hy.xOp hi hE H
  ·
   have := ready_mono hj hji
   rw [H.1] at this
   cases this
 | succ fuel ih =>
  intro listed a w σ hv hfree hr hE hy H
  refine ⟨fun h => (by rw [h] at hr; cases hr), fun j hj => ?_⟩
  by_cases hji : j = i
  ·
   subst hji; exact hy.xOp hi hE H
  ·
   have h1 := H.2 j (ready_mono hj hji)
   obtain ⟨hjun, oj, hoj, hall⟩ := mem_ready.1 hj
   have hnot := zfr hr hall
   have hap := hfree j oj hoj hji hjun hnot
   have h2 := yhh hoj hap (fun cs b => hsel i oi cs b hi) (fun cs b => hsel j oj cs b hoj) hy h1
   have hfree' : ∀ k ok, ops[k]? = some ok → k ≠ i → (listed.setIfInBounds j true).getD k true = false →
     (∀ e ∈ ok.after, Region.binds .any e = true → e.on ≠ i) → oi.apart ops ok = true := fun k ok hk hki hun hno => by
    refine hfree k ok hk hki ?_ hno
    by_cases hjk : j = k
    ·
     subst hjk; exact hjun
    ·
     rw [getD_set_ne true hjk] at hun; exact hun
   have hkeep : ∀ u, Region.wanted oi (yielded ops (a.put oj.dst u).tmps) = Region.wanted oi (yielded ops a.tmps) := fun u => wanted_put oi a oj.dst u (Oper.apart_spec hap).2.2
   have h3 : xOp L P ops E W j (fun a' w' σ' => (E.contains i = false ∨ Region.wanted oi (yielded ops a'.tmps) = false) ∧ YX L P ops W oi v a' σ' ∧ wpX L P ops E W Q fuel ((listed.setIfInBounds i true).setIfInBounds j true) (a'.put oi.dst v) w' σ') a w σ := by
    unfold xOp at h2 ⊢
    simp only [hoj] at h2 ⊢
    split
    ·
     rename_i hw
     rw [if_pos hw] at h2
     split
     ·
      rename_i he
      rw [if_pos he] at h2
      exact zb3 (fun u w' ⟨hl, hk⟩ => ⟨hl, by rw [hkeep u]; exact hE, hk⟩) h2
     ·
      rename_i he
      rw [if_neg he] at h2
      obtain ⟨u, hu, hk⟩ := h2
      exact ⟨u, hu, by rw [hkeep u]; exact hE, hk⟩
    ·
     rename_i hw
     rw [if_neg hw] at h2
     exact ⟨by rw [hkeep undef]; exact hE, h2⟩
   refine ydf lr lt hv (fun a' w' σ' hv' h4 => ih (listed.setIfInBounds j true) a' w' σ' hv' hfree' (ready_mono hr (Ne.symm hji)) h4.1 h4.2.1 ?_) h3
   rw [Array.setIfInBounds_comm _ _ hji]
   exact h4.2.2
def DC (ops : Array Oper) (listed : Array Bool) : Prop := ∀ k o, ops[k]? = some o → listed.getD k false = true → ∀ e ∈ o.after, Region.binds .any e = true → listed.getD e.on false = true
theorem DC.add {listed : Array Bool} {j : Nat} (h : DC ops listed) (hj : j ∈ Region.ready .any ops listed) : DC ops (listed.setIfInBounds j true) := by
 intro k o hk hl e he hb
 obtain ⟨_, oj, hoj, hall⟩ := mem_ready.1 hj
 by_cases hjk : j = k
 ·
  subst hjk
  rw [hoj] at hk
  have e1 := Option.some.inj hk
  subst e1
  exact getD_set_true (hall e he hb)
 ·
  rw [getD_set_ne false hjk] at hl
  exact getD_set_true (h k o hk hl e he hb)
def zdd (ops : Array Oper) : List Nat → Bool
 | i :: j :: r => ((ops[j]?).map fun o => zcx o i).getD false && zdd ops (j :: r)
 | _ => true
theorem zh7 {listed : Array Bool} (hd : DC ops listed) : ∀ (r : List Nat) (i : Nat), zdd ops (i :: r) = true → listed.getD i false = false → ∀ j ∈ r, ¬ j ∈ Region.ready .any ops listed
 | [], _, _, _, j, hj => by simp at hj
 | k :: r, i, hc, hi, j, hj => by
  simp only [zdd, Bool.and_eq_true] at hc
  obtain ⟨hw, hc⟩ := hc
  cases hk : ops[k]? with
  | none => rw [hk] at hw; simp at hw
  | some o =>
   rw [hk] at hw
   obtain ⟨e, he, hb, hon⟩ := zda (o := o) (i := i) (by simpa using hw)
   have hk0 : listed.getD k false = false := by
    cases hl : listed.getD k false with
    | false => rfl
    | true =>
     have := hd k o hk hl e he hb
     rw [hon, hi] at this; cases this
   rcases List.mem_cons.1 hj with rfl | hj
   ·
    intro hr
    obtain ⟨_, o', ho', hall⟩ := mem_ready.1 hr
    rw [hk] at ho'
    have e1 := Option.some.inj ho'
    subst e1
    have := hall e he hb
    rw [hon, hi] at this; cases this
   ·
    exact zh7 hd r k hc hk0 j hj
theorem unlisted {listed : Array Bool} {i : Nat} (h : i ∈ Region.ready .any ops listed) : listed.getD i false = false := by
 have h0 := (mem_ready.1 h).1
 rcases Nat.lt_or_ge i listed.size with h' | h'
 ·
  simp [h'] at h0 ⊢; exact h0
 ·
  simp [Array.getElem?_eq_none h'] at h0
theorem zit {listed : Array Bool} (hd : DC ops listed) : ∀ (E : List Nat), zdd ops E = true → ∀ i j, i ∈ E → j ∈ E → i ∈ Region.ready .any ops listed → j ∈ Region.ready .any ops listed → i = j
 | [], _, _, _, hi, _, _, _ => by simp at hi
 | k :: r, hc, i, j, hi, hj, ri, rj => by
  have htail : zdd ops r = true := by
   cases r with
   | nil => rfl
   | cons x r => simp only [zdd, Bool.and_eq_true] at hc; exact hc.2
  rcases List.mem_cons.1 hi with e1 | hi <;> rcases List.mem_cons.1 hj with e2 | hj
  ·
   rw [e1, e2]
  ·
   rw [e1] at ri; exact absurd rj (zh7 hd r k hc (unlisted ri) j hj)
  ·
   rw [e2] at rj; exact absurd ri (zh7 hd r k hc (unlisted rj) i hi)
  ·
   exact zit hd r htail i j hi hj ri rj
theorem z3j {i : Nat} {oi : Oper} (hi : ops[i]? = some oi) (hE : E.contains i = true) (hc : zdd ops E = true) (hsel : ∀ (j : Nat) (o : Oper) cs b, ops[j]? = some o → o.op ≠ .select cs b) :
  ∀ (fuel : Nat) (listed : Array Bool) (a : Act) (w : World) (σ : List (Nat × World)), InvX L W σ w → DC ops listed →
   (∀ j oj, ops[j]? = some oj → j ≠ i → listed.getD j true = false → (∀ e ∈ oj.after, Region.binds .any e = true → e.on ≠ i) → oi.apart ops oj = true) →
   i ∈ Region.ready .any ops listed → Region.wanted oi (yielded ops a.tmps) = true →
   zds P oi a w (fun v w' => L w w' ∧ wpX L P ops E W Q fuel (listed.setIfInBounds i true) (a.put oi.dst v) w' ((i, w') :: σ)) → wpX L P ops E W Q (fuel + 1) listed a w σ := by
 intro fuel
 induction fuel with
 | zero =>
  intro listed a w σ _ _ _ hr hw H
  refine ⟨fun h => (by rw [h] at hr; cases hr), fun j hj => ?_⟩
  by_cases hji : j = i
  ·
   subst hji; unfold xOp; simp only [hi]; rw [if_pos hw, if_pos hE]; exact H
  ·
   obtain ⟨v, w', _, h0⟩ := zhk H
   have := ready_mono hj hji
   rw [h0.1] at this
   cases this
 | succ fuel ih =>
  intro listed a w σ hv hdc hfree hr hw H
  refine ⟨fun h => (by rw [h] at hr; cases hr), fun j hj => ?_⟩
  by_cases hji : j = i
  ·
   subst hji; unfold xOp; simp only [hi]; rw [if_pos hw, if_pos hE]; exact H
  ·
   obtain ⟨hjun, oj, hoj, hall⟩ := mem_ready.1 hj
   have hnot := zfr hr hall
   have hap := hfree j oj hoj hji hjun hnot
   obtain ⟨a1, a2, a3⟩ := Oper.apart_spec hap
   have hsi := fun cs b => hsel i oi cs b hi
   have hsj := fun cs b => hsel j oj cs b hoj
   have hjE : ¬ E.contains j = true := fun h => hji (zit hdc E hc j i (by simpa using h) (by simpa using hE) hj hr)
   have hnw : zcx oj i = false := by
    cases h : zcx oj i with
    | false => rfl
    | true => obtain ⟨e, he, hb, hon⟩ := zda h; exact absurd hon (hnot e he hb)
   have hfree' : ∀ k ok, ops[k]? = some ok → k ≠ i → (listed.setIfInBounds j true).getD k true = false →
     (∀ e ∈ ok.after, Region.binds .any e = true → e.on ≠ i) → oi.apart ops ok = true := fun k ok hk hki hun hno => by
    refine hfree k ok hk hki ?_ hno
    by_cases hjk : j = k
    ·
     subst hjk; exact hjun
    ·
     rw [getD_set_ne true hjk] at hun; exact hun
   have hr' := ready_mono hr (Ne.symm hji)
   have next : ∀ u, (∀ v w', wpX L P ops E W Q (fuel + 1) (listed.setIfInBounds i true) (a.put oi.dst v) w' ((i, w') :: σ) → wpX L P ops E W Q fuel ((listed.setIfInBounds i true).setIfInBounds j true) ((a.put oi.dst v).put oj.dst u) w' ((i, w') :: σ)) →
     wpX L P ops E W Q (fuel + 1) (listed.setIfInBounds j true) (a.put oj.dst u) w σ := fun u hn => by
    refine ih (listed.setIfInBounds j true) (a.put oj.dst u) w σ hv (hdc.add hj) hfree' hr' (by rw [wanted_put oi a oj.dst u a3]; exact hw) ?_
    have H2 := zb3 (fun v w' ⟨hl, hk⟩ => (⟨hl, hn v w' hk⟩ : L w w' ∧ _)) H
    unfold zds at H2 ⊢
    rw [execOp_put oi hsi a oj.dst u a3]
    refine zb3 (P := P) (o := oi) (a := a) (w := w) (fun v w' ⟨hl, hk⟩ => ⟨hl, ?_⟩) H2
    rw [Array.setIfInBounds_comm _ _ hji, ← Act.put_comm a v u a2]
    exact hk
   obtain ⟨v0, w0, hl0, H0⟩ := zhk H
   have h1 := H0.2 j (ready_mono hj hji)
   unfold xOp at h1 ⊢
   simp only [hoj] at h1 ⊢
   rw [wanted_put oj a oi.dst v0 a1] at h1
   split
   ·
    rename_i hwj
    rw [if_pos hwj, if_neg hjE] at h1
    obtain ⟨c, hc1, hc2⟩ := h1
    have hval : ∀ w', clsX L W σ oj w' → zc5 P oj a w' c := fun w' hw' => by
     have := hc1 w' (zku hnw hw')
     unfold zc5 at *
     rwa [execOp_put oj hsj a oi.dst v0 a1] at this
    refine ⟨c, hval, next c fun v w' hk => ?_⟩
    have h2 := hk.2 j (ready_mono hj hji)
    unfold xOp at h2
    simp only [hoj] at h2
    rw [wanted_put oj a oi.dst v a1, if_pos hwj, if_neg hjE] at h2
    obtain ⟨c', hc1', hc2'⟩ := h2
    have e : c' = c := by
     refine zog ?_ (hval w (hv.cls oj))
     have := hc1' w (zku hnw (hv.cls oj))
     unfold zc5 at *
     rwa [execOp_put oj hsj a oi.dst v a1] at this
    subst e
    exact hc2'
   ·
    rename_i hwj
    refine next undef fun v w' hk => ?_
    have h2 := hk.2 j (ready_mono hj hji)
    unfold xOp at h2
    simp only [hoj] at h2
    rw [wanted_put oj a oi.dst v a1, if_neg hwj] at h2
    exact h2
def wpXL (L : World → World → Prop) (P : Program) (ops : Array Oper) (E : List Nat) (W : World) (Q : Exit → Act → World → Prop) : Nat → List Oper → Act → World → List (Nat × World) → Prop
 | _, [], a, w, _ => Q .normal a w
 | k, o :: rest, a, w, σ =>
  if Region.wanted o (yielded ops a.tmps) = true then
   (if E.contains k = true then zds P o a w (fun v w' => L w w' ∧ wpXL L P ops E W Q (k + 1) rest (a.put o.dst v) w' ((k, w') :: σ)) else ∃ v, (∀ w', clsX L W σ o w' → zc5 P o a w' v) ∧ wpXL L P ops E W Q (k + 1) rest (a.put o.dst v) w σ)
  else wpXL L P ops E W Q (k + 1) rest (a.put o.dst undef) w σ
theorem zx1 (lr : ∀ w, L w w) (lt : ∀ {a b c : World}, L a b → L b c → L a c) (hs : Region.noSelect ops = true) (hc : zdd ops E = true) : ∀ (l : List Oper) (k : Nat) (listed : Array Bool) (a : Act) (w : World) (σ : List (Nat × World)), InvX L W σ w → DC ops listed → (∀ j, l[j]? = ops[k + j]?) →
  Region.lexFrom .any ops l.length k listed = true → wpXL L P ops E W Q k l a w σ → wpX L P ops E W Q l.length listed a w σ
 | [], _, _, _, _, _, _, _, _, hB, h => ⟨by simpa [Region.lexFrom] using hB, h⟩
 | o :: l, k, listed, a, w, σ, hv, hd, hl, hB, h => by
  have h0 : ops[k]? = some o := by simpa using (hl 0).symm
  simp only [List.length_cons, Region.lexFrom, Bool.and_eq_true] at hB
  obtain ⟨⟨hr, hf⟩, hB'⟩ := hB
  have hr' : k ∈ Region.ready .any ops listed := by simpa using hr
  have next : ∀ a' w' σ', InvX L W σ' w' → wpXL L P ops E W Q (k + 1) l a' w' σ' → wpX L P ops E W Q l.length (listed.setIfInBounds k true) a' w' σ' := fun a' w' σ' hv' h' =>
   zx1 lr lt hs hc l (k + 1) _ a' w' σ' hv' (hd.add hr') (fun j => by have := hl (j + 1); simpa [Nat.add_assoc, Nat.add_comm 1 j] using this) hB' h'
  unfold wpXL at h
  split at h
  ·
   rename_i hw
   split at h
   ·
    rename_i hE
    exact z3j h0 hE hc (Region.noSelect_spec hs) l.length listed a w σ hv hd (Region.free_spec h0 hf) hr' hw (zb3 (fun v w' ⟨hl', hk⟩ => ⟨hl', next _ _ _ (hv.cons lr lt k hl') hk⟩) h)
   ·
    rename_i hE
    obtain ⟨v, h1, h2⟩ := h
    exact zve lr lt h0 (Region.noSelect_spec hs) l.length listed a w σ hv (Region.free_spec h0 hf) hr' (.inl (by simpa using hE)) (.inl ⟨hw, h1⟩) (next _ _ _ hv h2)
  ·
   rename_i hw
   have hw' : Region.wanted o (yielded ops a.tmps) = false := by simpa using hw
   exact zve lr lt h0 (Region.noSelect_spec hs) l.length listed a w σ hv (Region.free_spec h0 hf) hr' (.inr hw') (.inr ⟨hw', rfl⟩) (next _ _ _ hv h)
theorem zah {B : Nat} {a w : World} (h : Below B a w) (n : Nat) : Below B a (w.drewN n) := ⟨h.os, h.tape, h.output, h.size, h.block⟩
theorem zab {a w w' : World} (h : Below a.heap.size a w) (k : Below w.heap.size w w') : Below a.heap.size a w' := h.trans (k.mono h.size)
theorem zqj (lr : ∀ w, L w w) (lt : ∀ {a b c : World}, L a b → L b c → L a c) (E : List Nat) {id : Nat} {a : Act} {w : World} {l : List Oper} (hm : P.follows .mixedOrders = true) (hB : Region.lexB .any l.toArray = true) (hc : zdd l.toArray E = true)
  (h : wpXL L P l.toArray E w.drew Q 0 l a w.drew []) : (Code.region id l.toArray true).wp P Q a w := by
 simp only [Region.lexB, Bool.and_eq_true] at hB
 refine wp_region_any hm (zem (L := L) lr lt (E := E) (W := w.drew) _ _ _ _ [] ⟨lr _, by simp⟩ ?_)
 have hd : DC l.toArray (Array.replicate l.toArray.size false) := fun k o _ hl => by
  rw [Array.getD_eq_getD_getElem?, Array.getElem?_replicate] at hl
  split at hl <;> simp at hl
 have := zx1 (P := P) (L := L) lr lt (E := E) (W := w.drew) (Q := Q) hB.1 hc l 0 (Array.replicate l.toArray.size false) a w.drew [] ⟨lr _, by simp⟩ hd (by simp) (by simpa using hB.2) h
 simpa using this
theorem zaj (E : List Nat) {id : Nat} {a : Act} {w : World} {l : List Oper} (hm : P.follows .mixedOrders = true) (hB : Region.lexB .any l.toArray = true) (hc : zdd l.toArray E = true)
  (h : wpXL Lq P l.toArray E w.drew Q 0 l a w.drew []) : (Code.region id l.toArray true).wp P Q a w := zqj Lq.refl (fun h k => Lq.trans h k) E hm hB hc h
theorem zo5 (B : Nat) (E : List Nat) {id : Nat} {a : Act} {w : World} {l : List Oper} (hm : P.follows .mixedOrders = true) (hB : Region.lexB .any l.toArray = true) (hc : zdd l.toArray E = true)
  (h : wpXL (Below B) P l.toArray E w.drew Q 0 l a w.drew []) : (Code.region id l.toArray true).wp P Q a w := zqj (Below.refl B) (fun h k => h.trans k) E hm hB hc h
structure WdB (B : Nat) (W : World) where
 w : World
 h : Below B W w
instance (B : Nat) (W : World) : Inhabited (WdB B W) := ⟨⟨W, Below.refl _ _⟩⟩
theorem za3 {k : Nat} {a : Act} {w : World} {σ : List (Nat × World)} (h : Q .normal a w) : wpXL L P ops E W Q k [] a w σ := h
theorem zoj {k : Nat} {o : Oper} {rest : List Oper} {a : Act} {w : World} {σ : List (Nat × World)} (hE : E.contains k = false) (hp : zcw o.op = true) (C : World → Prop) (h0 : ∀ w', clsX L W σ o w' → C w')
  (h : wpQuiet P ops C (fun a' => wpXL L P ops E W Q (k + 1) rest a' w σ) [o] a) : wpXL L P ops E W Q k (o :: rest) a w σ := by
 unfold wpXL
 unfold wpQuiet at h
 split
 ·
  rename_i hw
  rw [if_pos hw] at h
  rw [if_neg (by rw [hE]; exact Bool.false_ne_true)]
  obtain ⟨v, h1, h2⟩ := h
  refine ⟨v, fun w' hw' => ?_, h2⟩
  have := h1 w' (h0 w' hw')
  unfold Oper.quietAt at this
  unfold zc5
  have hne := fun f args w'' => zdx (P := P) hp (ρ := a.eval) (w := w') (w' := w'') (f := f) (args := args)
  generalize (execOp a.eval o).run P w' = r at *
  cases r with
  | ok n w1 =>
   cases n <;> simp only [Oper.quietUpon] at this
   case value u => obtain ⟨rfl, rfl⟩ := this; exact .inl rfl
   case skip => obtain ⟨rfl, rfl⟩ := this; exact .inr ⟨rfl, rfl⟩
   case enter f args => exact absurd rfl (hne f args w1)
  | halt x w1 => simp only [Oper.quietUpon] at this
 ·
  rename_i hw
  rw [if_neg hw] at h
  exact h
theorem zae {k : Nat} {o : Oper} {rest : List Oper} {a : Act} {w : World} {σ : List (Nat × World)} (hE : E.contains k = false) (hp : zcw o.op = true) (w0 : World) (h0 : ∀ w', clsX Lq W σ o w' → Lq w0 w')
  (h : wpQuiet P ops (fun w' => ∃ p : Wd w0, w' = p.w) (fun a' => wpXL Lq P ops E W Q (k + 1) rest a' w σ) [o] a) : wpXL Lq P ops E W Q k (o :: rest) a w σ :=
 zoj hE hp _ (fun w' hw' => ⟨⟨w', h0 w' hw'⟩, rfl⟩) h
theorem zij {B : Nat} {k : Nat} {o : Oper} {rest : List Oper} {a : Act} {w : World} {σ : List (Nat × World)} (hE : E.contains k = false) (hp : zcw o.op = true)
  (h : wpQuiet P ops (fun w' => ∃ p : WdB B W, w' = p.w) (fun a' => wpXL (Below B) P ops E W Q (k + 1) rest a' w σ) [o] a) : wpXL (Below B) P ops E W Q k (o :: rest) a w σ :=
 zoj hE hp _ (fun w' hw' => ⟨⟨w', hw'.1⟩, rfl⟩) h
theorem zag {k : Nat} {o : Oper} {rest : List Oper} {a : Act} {w : World} {σ : List (Nat × World)} (hw : Region.wanted o (yielded ops a.tmps) = false) (h : wpXL L P ops E W Q (k + 1) rest (a.put o.dst undef) w σ) : wpXL L P ops E W Q k (o :: rest) a w σ := by
 unfold wpXL
 rw [if_neg (by rw [hw]; exact Bool.false_ne_true)]
 exact h
theorem zaf {σ : List (Nat × World)} {o : Oper} : ∀ w', clsX L W σ o w' → L W w' := fun _ h => h.1
theorem z4k {σ : List (Nat × World)} {o : Oper} (i : Nat) (wi : World) (hm : (i, wi) ∈ σ) (hw : zcx o i = true) : ∀ w', clsX L W σ o w' → L wi w' := fun _ h => h.2 _ hm hw
theorem zan {k : Nat} {o : Oper} {rest : List Oper} {a : Act} {w : World} {σ : List (Nat × World)} (hE : E.contains k = true) (hw : Region.wanted o (yielded ops a.tmps) = true) {f : FuncId} {xs : Array Operand} {ts : Array TypeId}
  (ho : o.op = .call { callee := .value (.func f), args := xs, argTypes := ts }) (hen : ∀ args w, (callFunc f args).run P w = .ok (.enter f args) w)
  (args : Array Value) (hargs : xs.toList.map a.eval = args.toList) (h : Calls P f args w fun e w' => ∃ v, e = .returned v ∧ L w w' ∧ wpXL L P ops E W Q (k + 1) rest (a.put o.dst v) w' ((k, w') :: σ)) : wpXL L P ops E W Q k (o :: rest) a w σ := by
 unfold wpXL
 rw [if_pos hw, if_pos hE]
 unfold zds
 have hargs : xs.map a.eval = args := Array.toList_inj.1 (by rw [Array.toList_map]; exact hargs)
 subst hargs
 have : (execOp a.eval o).run P w = .ok (.enter f (xs.map a.eval)) w := by
  unfold execOp
  simp [ho, resolve, invoke, Act.eval, Deferred.ofValue, hen]
 rw [this]
 exact h
theorem zff {k : Nat} {o : Oper} {rest : List Oper} {a : Act} {w : World} {σ : List (Nat × World)} (hE : E.contains k = true) (hw : Region.wanted o (yielded ops a.tmps) = true) (v : Value) (w' : World)
  (hrun : (execOp a.eval o).run P w = .ok (.value v) w') (hl : L w w') (h : wpXL L P ops E W Q (k + 1) rest (a.put o.dst v) w' ((k, w') :: σ)) : wpXL L P ops E W Q k (o :: rest) a w σ := by
 unfold wpXL
 rw [if_pos hw, if_pos hE]
 unfold zds
 rw [hrun]
 exact ⟨hl, h⟩
attribute [irreducible] wpXL
end
end Go.Proofs.YtkalofboioffiaaGreat
