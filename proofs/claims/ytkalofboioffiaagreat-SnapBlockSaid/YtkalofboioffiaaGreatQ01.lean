import Derived.WalkKit
import Derived.Below
import Derived.Deep.WholeRow
import Derived.Deep.MidRow
import Derived.Deep.Draws
import Derived.Deep.QuietTactic
import Derived.BigQuiet
namespace Go.Proofs.YtkalofboioffiaaGreat
open Go.RowKit
set_option maxRecDepth 200000
set_option maxHeartbeats 64000000
open Go.RowKit
section
variable {P : Program}
def ldA (w : World) (v : Value) (n : Nat) : Option (Array Value) :=
 match v with
 | .pointer (some ⟨b, o, none⟩) => ((List.range n).mapM fun j => w.cell? ⟨b, o + j, none⟩).map List.toArray
 | _ => none
def wrA (w : World) (v : Value) (n : Nat) : Bool :=
 match v with
 | .pointer (some ⟨b, o, none⟩) => (List.range n).all fun j => (w.cell? ⟨b, o + j, none⟩).isSome && !w.frozen? ⟨b, o + j, none⟩
 | _ => false
def stA (w : World) (v : Value) (x : Value) : World :=
 match v, x with
 | .pointer (some ⟨b, o, none⟩), .agg c => w.setCells b o c.toList
 | _, _ => w
def okA (n : Nat) (x : Value) : Bool :=
 match x with
 | .agg c => c.size == n && c.all (·.oneCell')
 | _ => false
theorem zyb {α β : Type} (f : α → Option β) : ∀ (l : List α) (r : List β), l.mapM f = some r → r.length = l.length ∧ ∀ (j : Nat) (x : α), l[j]? = some x → ∃ y, r[j]? = some y ∧ f x = some y
 | [], r, h => by simp at h; subst h; simp
 | a :: l, r, h => by
  rw [List.mapM_cons] at h
  simp only [bind, Option.bind_eq_some_iff, pure, Option.some.injEq] at h
  obtain ⟨y, hy, ys, hys, rfl⟩ := h
  obtain ⟨h1, h2⟩ := zyb f l ys hys
  refine ⟨by simp [h1], fun j x hx => ?_⟩
  cases j with
  | zero => simp at hx; subst hx; exact ⟨y, by simp, hy⟩
  | succ j => simpa using h2 j x (by simpa using hx)
theorem zvj {α β : Type} (f : α → Option β) : ∀ (l : List α) (r : List β), r.length = l.length → (∀ (j : Nat) (x : α) (y : β), l[j]? = some x → r[j]? = some y → f x = some y) → l.mapM f = some r
 | [], r, hl, _ => by simp at hl; simp [hl]
 | a :: l, [], hl, _ => by simp at hl
 | a :: l, y :: r, hl, h => by
  rw [List.mapM_cons, h 0 a y (by simp) (by simp), zvj f l r (by simpa using hl) (fun j x z hx hz => h (j + 1) x z (by simpa using hx) (by simpa using hz))]
  rfl
theorem zxz {w : World} {b o n : Nat} {c : Array Value} (h : ldA w (.pointer (some ⟨b, o, none⟩)) n = some c) : c.size = n ∧ w.rangeAt b o c.toList := by
 simp only [ldA, Option.map_eq_some_iff] at h
 obtain ⟨l, hl, rfl⟩ := h
 obtain ⟨h1, h2⟩ := zyb _ _ _ hl
 refine ⟨by simpa using h1, fun j v hv => ?_⟩
 have hj : j < l.length := by
  have := (List.getElem?_eq_some_iff.1 (by simpa using hv : l[j]? = some v)).1; exact this
 obtain ⟨y, hy, hc⟩ := h2 j j (by rw [List.getElem?_range (by simpa [h1] using hj)])
 have : v = y := by
  have e : l[j]? = some v := by simpa using hv
  rw [e] at hy; exact Option.some.inj hy
 subst this
 exact hc
theorem zxy {w : World} {b o n : Nat} {c : Array Value} (hn : c.size = n) (h : w.rangeAt b o c.toList) : ldA w (.pointer (some ⟨b, o, none⟩)) n = some c := by
 simp only [ldA]
 rw [zvj _ (List.range n) c.toList (by simpa using hn) (fun j x y hx hy => ?_)]
 ·
  simp
 ·
  have hx' : x = j := by
   have := List.getElem?_eq_some_iff.1 hx
   obtain ⟨_, e⟩ := this
   simpa using e.symm
  subst hx'
  exact h x y hy
theorem zxx {w w' : World} {b o n : Nat} (h : ∀ j, j < n → w'.cell? ⟨b, o + j, none⟩ = w.cell? ⟨b, o + j, none⟩) : ldA w' (.pointer (some ⟨b, o, none⟩)) n = ldA w (.pointer (some ⟨b, o, none⟩)) n := by
 simp only [ldA]
 congr 1
 have : ∀ l : List Nat, (∀ j ∈ l, j < n) → l.mapM (fun j => w'.cell? ⟨b, o + j, none⟩) = l.mapM (fun j => w.cell? ⟨b, o + j, none⟩) := by
  intro l
  induction l with
  | nil => intro _; rfl
  | cons a l ih =>
   intro hl
   rw [List.mapM_cons, List.mapM_cons, h a (hl a (by simp)), ih (fun j hj => hl j (by simp [hj]))]
 exact this _ (fun j hj => List.mem_range.1 hj)
theorem zd8 {w : World} {b o n : Nat} : wrA w (.pointer (some ⟨b, o, none⟩)) n = true ↔ w.there b o n := by
 simp [wrA, World.there, List.all_eq_true]
theorem yd5 {w w' : World} {b o n : Nat} (h : ∀ j, j < n → w'.cell? ⟨b, o + j, none⟩ = w.cell? ⟨b, o + j, none⟩) (hf : ∀ j, j < n → w'.frozen? ⟨b, o + j, none⟩ = w.frozen? ⟨b, o + j, none⟩) : wrA w' (.pointer (some ⟨b, o, none⟩)) n = wrA w (.pointer (some ⟨b, o, none⟩)) n := by
 rw [Bool.eq_iff_iff, zd8, zd8]
 unfold World.there
 exact ⟨fun k j hj => by rw [← h j hj, ← hf j hj]; exact k j hj, fun k j hj => by rw [h j hj, hf j hj]; exact k j hj⟩
theorem zfz {T : TypeId} {n : Nat} (hA : ∀ w, (isAgg T).run P w = .ok true w) (hS : ∀ w, (Go.sizeOf T).run P w = .ok n w) (w : World) (b o : Nat) (c : Array Value) (h : ldA w (.pointer (some ⟨b, o, none⟩)) n = some c) :
  (loadVar T ⟨b, o, none⟩).run P w = .ok (.agg c) w := by
 obtain ⟨hn, hr⟩ := zxz h
 have hl : (loadCells ⟨b, o, none⟩ c.toList.length).run P w = .ok c.toList.toArray w :=
  run_loadCells_list (P := P) w ⟨b, o, none⟩ c.toList (fun j v hv => by rw [Addr.add_mid]; exact hr j v hv)
 rw [show c.toList.length = n by simpa using hn, Array.toArray_toList] at hl
 simp [loadVar, Sem.run_bind, hA, hS, hl]
theorem ya5 {w : World} {v : Value} {n : Nat} (h : (ldA w v n).isSome = true) : ∃ b o c, v = .pointer (some ⟨b, o, none⟩) ∧ ldA w v n = some c := by
 obtain ⟨c, hc⟩ := Option.isSome_iff_exists.1 h
 have hc' := hc
 unfold ldA at hc'
 split at hc'
 ·
  rename_i b o
  exact ⟨b, o, c, rfl, hc⟩
 ·
  cases hc'
theorem zy6 {T : TypeId} {n : Nat} (hA : ∀ w, (isAgg T).run P w = .ok true w) (hS : ∀ w, (Go.sizeOf T).run P w = .ok n w)
  (ρ : Operand → Value) (dst : Option Tmp) (x : Operand) (ty : TypeId) (pos : String) (after : Array Edge) (guard : Option (Nat × Bool)) (w : World) (h : (ldA w (ρ x) n).isSome = true) :
  (execOp ρ { dst, op := .load T x, type := ty, pos, after, guard }).run P w = .ok (.value (.agg ((ldA w (ρ x) n).getD #[]))) w := by
 obtain ⟨b, o, c, hv, hc⟩ := ya5 h
 rw [hc]
 rw [hv] at hc
 unfold execOp
 simp only [hv, Instr.loadAt, Instr.sureAddr, Sem.run_bind, Sem.run_pure, Result.andThen_ok, zfz hA hS w b o c hc, Option.getD_some]
theorem zv3 {T : TypeId} {n : Nat} (hS : ∀ w, (Go.sizeOf T).run P w = .ok n w)
  (ρ : Operand → Value) (dst : Option Tmp) (x y : Operand) (ty : TypeId) (pos : String) (after : Array Edge) (guard : Option (Nat × Bool)) (w : World) (h : wrA w (ρ x) n = true) (hy : okA n (ρ y) = true) :
  (execOp ρ { dst, op := .store T x y, type := ty, pos, after, guard }).run P w = .ok .skip (stA w (ρ x) (ρ y)) := by
 obtain ⟨c, hc, hn, h1⟩ : ∃ c, ρ y = .agg c ∧ c.size = n ∧ c.all (·.oneCell') = true := by
  unfold okA at hy
  split at hy
  ·
   rename_i c hc
   rw [Bool.and_eq_true, beq_iff_eq] at hy
   exact ⟨c, hc, hy.1, hy.2⟩
  ·
   cases hy
 obtain ⟨b, o, hv⟩ : ∃ b o, ρ x = .pointer (some ⟨b, o, none⟩) := by
  unfold wrA at h
  split at h
  ·
   rename_i b o hb; exact ⟨b, o, hb⟩
  ·
   cases h
 rw [hv] at h
 have ht := zd8.1 h
 have := run_storeCells_cells (P := P) b o c.toList 0 w (fun j hj => by simpa using (ht j (by simpa [hn] using hj)).1) (fun j hj => by simpa using (ht j (by simpa [hn] using hj)).2)
  (fun v hv => (Array.all_eq_true_iff_forall_mem.1 h1) v (by simpa using hv))
 simp only [Nat.add_zero] at this
 unfold execOp
 simp only [hv, hc, stA]
 simp [Instr.storeAt, Instr.sureAddr, storeVar, hS, Value.cells, hn, this]
def zkh (o : Option (Array Value)) (w : World) (r : Result Next) : Result Next :=
 match o with
 | some c => .ok (.value (.agg c)) w
 | none => r
@[go_sem] theorem yok (c : Array Value) (w : World) (r : Result Next) : zkh (some c) w r = .ok (.value (.agg c)) w := rfl
def zjo (b : Bool) (w' : World) (r : Result Next) : Result Next := if b then .ok .skip w' else r
@[go_sem] theorem yon (w' : World) (r : Result Next) : zjo true w' r = .ok .skip w' := rfl
def zbn (P : Program) (ρ : Operand → Value) (o : Oper) (w : World) : Result Next := (execOp ρ o).run P w
theorem zb2 {T : TypeId} {n : Nat} (hA : ∀ w, (isAgg T).run P w = .ok true w) (hS : ∀ w, (Go.sizeOf T).run P w = .ok n w)
  (ρ : Operand → Value) (dst : Option Tmp) (x : Operand) (ty : TypeId) (pos : String) (after : Array Edge) (guard : Option (Nat × Bool)) (w : World) :
  (execOp ρ { dst, op := .load T x, type := ty, pos, after, guard }).run P w = zkh (ldA w (ρ x) n) w (zbn P ρ { dst, op := .load T x, type := ty, pos, after, guard } w) := by
 cases h : ldA w (ρ x) n with
 | none => rfl
 | some c => rw [zy6 hA hS ρ dst x ty pos after guard w (by rw [h]; rfl), h]; rfl
theorem zbm {T : TypeId} {n : Nat} (hS : ∀ w, (Go.sizeOf T).run P w = .ok n w)
  (ρ : Operand → Value) (dst : Option Tmp) (x y : Operand) (ty : TypeId) (pos : String) (after : Array Edge) (guard : Option (Nat × Bool)) (w : World) :
  (execOp ρ { dst, op := .store T x y, type := ty, pos, after, guard }).run P w = zjo (wrA w (ρ x) n && okA n (ρ y)) (stA w (ρ x) (ρ y)) (zbn P ρ { dst, op := .store T x y, type := ty, pos, after, guard } w) := by
 cases h : wrA w (ρ x) n && okA n (ρ y) with
 | false => rfl
 | true =>
  rw [Bool.and_eq_true] at h
  rw [zv3 hS ρ dst x y ty pos after guard w h.1 h.2]; rfl
@[go_sem] theorem zu9 (w : World) (v : Value) (n : Nat) : ldA w.drew v n = ldA w v n := by
 unfold ldA; split <;> simp
@[go_sem] theorem yp3 (w : World) (v : Value) (n k : Nat) : ldA (w.drewN k) v n = ldA w v n := rfl
@[go_sem] theorem yrf (w : World) (v : Value) (n k : Nat) : wrA (w.drewN k) v n = wrA w v n := rfl
@[go_sem] theorem yp2 (w : World) (d : Nat) (v : Value) (n : Nat) : ldA { w with drawn := d } v n = ldA w v n := rfl
@[go_sem] theorem yre (w : World) (d : Nat) (v : Value) (n : Nat) : wrA { w with drawn := d } v n = wrA w v n := rfl
@[go_sem] theorem yp1 (w : World) (ob : Obj) (b o n : Nat) (h : b < w.heap.size) : ldA (w.alloc ob) (.pointer (some ⟨b, o, none⟩)) n = ldA w (.pointer (some ⟨b, o, none⟩)) n :=
 zxx fun _ _ => World.cell?_alloc_lt _ _ _ h
@[go_sem] theorem yrd (w : World) (ob : Obj) (b o n : Nat) (h : b < w.heap.size) : wrA (w.alloc ob) (.pointer (some ⟨b, o, none⟩)) n = wrA w (.pointer (some ⟨b, o, none⟩)) n :=
 yd5 (fun _ _ => World.cell?_alloc_lt _ _ _ h) (fun _ _ => World.frozen?_alloc_past _ _ _ h)
@[go_sem] theorem ygo (w : World) (c : Array Value) (t : TypeId) (b n : Nat) (h : b = w.heap.size) (hn : c.size = n) : ldA (w.alloc (.cells c t)) (.pointer (some ⟨b, 0, none⟩)) n = some c := by
 subst h
 refine zxy hn fun j v hv => ?_
 rw [Nat.zero_add, cell_of_row _ _ j c t _ (heap_alloc_last w _)]
 simpa using hv
theorem zf0 (w : World) (t : TypeId) : ∀ (vs : List Value) (o : Nat) (c : Array Value), (w.alloc (.cells c t)).setCells w.heap.size o vs = w.alloc (.cells ((vs.zipIdx o).foldl (fun c p => c.setIfInBounds p.2 p.1) c) t)
 | [], _, _ => rfl
 | v :: r, o, c => by
  rw [World.setCells, World.setCell_alloc_new, zf0 w t r (o + 1)]
  rfl
theorem zih : ∀ (vs : List Value) (o : Nat) (c : Array Value), (∀ j, (((vs.zipIdx o).foldl (fun c p => c.setIfInBounds p.2 p.1) c) : Array Value)[j]? = if o ≤ j ∧ j < o + vs.length ∧ j < c.size then vs[j - o]? else c[j]?)
 | [], o, c, j => by
  simp
  intros; omega
 | v :: r, o, c, j => by
  rw [List.zipIdx_cons, List.foldl_cons, zih r (o + 1) _ j]
  simp only [Array.size_setIfInBounds, Array.getElem?_setIfInBounds, List.length_cons]
  by_cases h1 : o + 1 ≤ j ∧ j < o + 1 + r.length ∧ j < c.size
  ·
   rw [if_pos h1, if_pos (by omega), show j - o = (j - (o + 1)) + 1 by omega]
   simp
  ·
   rw [if_neg h1]
   by_cases h2 : o = j
   ·
    subst h2
    by_cases h3 : o < c.size
    ·
     rw [if_pos rfl, if_pos h3, if_pos (by omega)]; simp
    ·
     rw [if_pos rfl, if_neg h3, if_neg (by omega), Array.getElem?_eq_none (by omega)]
   ·
    rw [if_neg h2, if_neg (by omega)]
@[go_sem] theorem yid (w : World) (c c' : Array Value) (t : TypeId) (b : Nat) (h : b = w.heap.size) (hn : c.size = c'.size) : stA (w.alloc (.cells c t)) (.pointer (some ⟨b, 0, none⟩)) (.agg c') = w.alloc (.cells c' t) := by
 subst h
 show (w.alloc (.cells c t)).setCells w.heap.size 0 c'.toList = _
 rw [zf0]
 congr 2
 apply Array.ext_getElem?
 intro j
 rw [zih]
 by_cases hj : j < c'.size
 ·
  rw [if_pos (by simp; omega)]; simp
 ·
  rw [if_neg (by simp; omega), Array.getElem?_eq_none (by omega), Array.getElem?_eq_none (by omega)]
theorem zf1 (ob : Obj) (b : Nat) : ∀ (vs : List Value) (o : Nat) (w : World), b < w.heap.size → (w.alloc ob).setCells b o vs = (w.setCells b o vs).alloc ob
 | [], _, _, _ => rfl
 | v :: r, o, w, h => by
  rw [World.setCells, World.setCells, World.setCell_alloc_past _ _ _ _ h, zf1 ob b r (o + 1) _ (by simpa [World.setCell] using h)]
@[go_sem] theorem yqv (w : World) (ob : Obj) (b o : Nat) (x : Value) (h : b < w.heap.size) : stA (w.alloc ob) (.pointer (some ⟨b, o, none⟩)) x = (stA w (.pointer (some ⟨b, o, none⟩)) x).alloc ob := by
 cases x <;> try rfl
 exact zf1 ob b _ o w h
theorem zjx (b : Nat) : ∀ (vs : List Value) (o : Nat) (w : World), (w.setCells b o vs).heap.size = w.heap.size
 | [], _, _ => rfl
 | v :: r, o, w => by rw [World.setCells, zjx b r]; simp [World.setCell]
@[go_sem] theorem zl0 (w : World) (v x : Value) : (stA w v x).heap.size = w.heap.size := by
 unfold stA
 split
 ·
  exact zjx _ _ _ _
 ·
  rfl
theorem zag {w : World} {b n : Nat} {c : Array Value} {t : TypeId} {fr : Nat × Nat} (hb : w.heap[b]? = some (.cells c t fr)) (hn : c.size = n) : ldA w (.pointer (some ⟨b, 0, none⟩)) n = some c := by
 refine zxy hn fun j v hv => ?_
 rw [Nat.zero_add, cell_of_row _ _ j c t _ hb]
 simpa using hv
theorem za0 {w : World} {b n : Nat} {c : Array Value} {t : TypeId} (hb : w.heap[b]? = some (.cells c t (0, 0))) (hn : c.size = n) : wrA w (.pointer (some ⟨b, 0, none⟩)) n = true := by
 rw [zd8]
 intro j hj
 rw [Nat.zero_add, cell_of_row _ _ j c t _ hb, frozen_of_row _ _ j c t hb]
 exact ⟨by rw [Array.getElem?_eq_getElem (by omega)]; rfl, rfl⟩
theorem zx0 {w : World} {b o n : Nat} {c : Array Value} (h : wrA w (.pointer (some ⟨b, o, none⟩)) n = true) (hn : c.size = n) : ldA (stA w (.pointer (some ⟨b, o, none⟩)) (.agg c)) (.pointer (some ⟨b, o, none⟩)) n = some c := by
 refine zxy hn ?_
 exact World.rangeAt_setCells_same w b o c.toList (by rw [Array.length_toList, hn]; exact zd8.1 h)
theorem zle (b : Nat) (k : Nat) (hk : k ≠ b) : ∀ (vs : List Value) (o : Nat) (w : World), (w.setCells b o vs).heap[k]? = w.heap[k]?
 | [], _, _ => rfl
 | v :: r, o, w => by rw [World.setCells, zle b k hk r, heap_setCell_other _ _ _ _ hk]
theorem zdf {w : World} {b o k : Nat} {x : Value} (hk : k ≠ b) : (stA w (.pointer (some ⟨b, o, none⟩)) x).heap[k]? = w.heap[k]? := by
 cases x <;> try rfl
 exact zle b k hk _ _ _
theorem zjr {B : Nat} {a : World} {b : Nat} (hb : B ≤ b) : ∀ (vs : List Value) (o : Nat) (w : World), Below B a w → Below B a (w.setCells b o vs)
 | [], _, _, h => h
 | v :: r, o, w, h => by rw [World.setCells]; exact zjr hb r (o + 1) _ (h.setCell hb v)
theorem zap {B : Nat} {a w : World} {b o : Nat} {x : Value} (h : Below B a w) (hb : B ≤ b) : Below B a (stA w (.pointer (some ⟨b, o, none⟩)) x) := by
 cases x <;> try exact h
 exact zjr hb _ _ _ h
theorem zqc {W w1 : World} {B : Nat} (hb : Below B W w1) (b o n : Nat) (h : b < B) : ldA w1 (.pointer (some ⟨b, o, none⟩)) n = ldA W (.pointer (some ⟨b, o, none⟩)) n :=
 zxx fun j _ => hb.cell (p := ⟨b, o + j, none⟩) h
theorem zfu {W w1 : World} (g : Below W.heap.size W w1) {b o : Nat} {cs : List Value} (h : W.rangeAt b o cs) : w1.rangeAt b o cs := fun j v hv => by
 have := h j v hv
 rw [g.cell (p := ⟨b, o + j, none⟩) (block_lt_of_cell this)]; exact this
theorem yp4 {w : World} {b o n : Nat} {c : Array Value} (h : ldA w (.pointer (some ⟨b, o, none⟩)) n = some c) (hn : 0 < n) : b < w.heap.size := by
 obtain ⟨h1, h2⟩ := zxz h
 have hc : c.toList[0]? = some (c[0]'(by omega)) := by simp
 exact block_lt_of_cell (h2 0 _ hc)
theorem keep {W w1 : World} (g : Below W.heap.size W w1) {v : Value} {n : Nat} {c : Array Value} (h : ldA W v n = some c) (hn : 0 < n := by decide) : ldA w1 v n = some c := by
 obtain ⟨b, o, _, rfl, _⟩ := ya5 (by rw [h]; rfl : (ldA W v n).isSome = true)
 rw [zqc g b o n (yp4 h hn), h]
structure Wd (W : World) where
 w : World
 h : Below W.heap.size W w
instance (W : World) : Inhabited (Wd W) := ⟨⟨W, Below.refl _ _⟩⟩
theorem yjl {W : World} {v : Value} {n : Nat} {c : Array Value} (h : ldA W v n = some c) (hn : 0 < n := by decide) (p : Wd W) : ldA p.w v n = some c := keep p.h h hn
end
end Go.Proofs.YtkalofboioffiaaGreat
