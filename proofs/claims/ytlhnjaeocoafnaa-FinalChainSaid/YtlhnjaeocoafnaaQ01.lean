/-
  Roots as plain data: thirty-two bytes, their cells, their order; no walk.
  Aggregates by value (arrays, structs of many cells), whole, in a walk: the load and the store of all cells at once, as rules of the walk; for every program.
-/
import Derived.WalkKit
import Derived.Below
import Derived.Sort.Grow
import Derived.Deep.WholeRow
import Derived.Deep.MidRow
import Derived.Deep.Draws
import Derived.Deep.QuietTactic
import Derived.BigQuiet
namespace Go.Proofs.Ytlhnjaeocoafnaa
open Go.RowKit
set_option maxRecDepth 100000

abbrev Rt := Vector UInt8 32

/-- A root's cells. -/
def rc (r : Rt) : Array Value := r.toArray.map fun b => .int .u8 (b.toNat : Int)
/-- The byte at a place. -/
def at8 (r : Rt) (k : Nat) : Int := ((r.toList.getD k 0).toNat : Int)

theorem rc_size (r : Rt) : (rc r).size = 32 := by simp [rc]
theorem rc_get (r : Rt) (k : Nat) (h : k < 32) : (rc r)[k]? = some (.int .u8 (at8 r k)) := by
  simp [rc, at8, h]
@[go_sem] theorem rc_getElem (r : Rt) (k : Nat) (h : k < (rc r).size) : (rc r)[k] = .int .u8 (at8 r k) := by
  have h' : k < 32 := by rw [rc_size] at h; exact h
  have := rc_get r k h'
  rw [Array.getElem?_eq_getElem h] at this
  exact Option.some.inj this
theorem at8_bd (r : Rt) (k : Nat) : 0 ≤ at8 r k ∧ at8 r k < 256 := by
  unfold at8
  have := (r.toList.getD k 0).toNat_lt
  omega
theorem rc_inj {a b : Rt} (h : rc a = rc b) : a = b := by
  unfold rc at h
  have hi : Function.Injective (fun b : UInt8 => Value.int .u8 (b.toNat : Int)) := by
    intro x y hxy
    simp only [Value.int.injEq, true_and] at hxy
    exact UInt8.toNat_inj.1 (by omega)
  have := (Array.map_inj_right (f := fun b : UInt8 => Value.int .u8 (b.toNat : Int)) (fun x y h => hi h)).1 h
  exact Vector.toArray_inj.1 this
theorem rc_one (r : Rt) : (rc r).all (·.oneCell') = true := by
  rw [Array.all_eq_true_iff_forall_mem]
  intro v hv
  obtain ⟨b, _, rfl⟩ := Array.mem_map.1 hv
  rfl

/-- Which of two lists of bytes stands first, at the first place at which they differ. -/
def lessL : List UInt8 → List UInt8 → Bool
  | x :: xs, y :: ys => if x = y then lessL xs ys else decide (x < y)
  | _, _ => false
def lessR (a b : Rt) : Bool := lessL a.toList b.toList

theorem lessL_irrefl : ∀ l, lessL l l = false
  | [] => rfl
  | x :: xs => by simp [lessL, lessL_irrefl xs]
theorem lessL_asymm : ∀ a b, lessL a b = true → lessL b a = false
  | [], _, h => by simp [lessL] at h
  | _ :: _, [], h => by simp [lessL] at h
  | x :: xs, y :: ys, h => by
    unfold lessL at h ⊢
    by_cases e : x = y
    · subst e; simp at h ⊢; exact lessL_asymm xs ys h
    · rw [if_neg e] at h; rw [if_neg (Ne.symm e)]
      simp at h ⊢
      exact UInt8.le_of_lt h
theorem lessL_trans : ∀ a b c, lessL a b = true → lessL b c = true → lessL a c = true
  | [], _, _, h, _ => by simp [lessL] at h
  | _ :: _, [], _, h, _ => by simp [lessL] at h
  | _ :: _, _ :: _, [], _, h => by simp [lessL] at h
  | x :: xs, y :: ys, z :: zs, h, k => by
    unfold lessL at h k ⊢
    by_cases e : x = y
    · subst e
      by_cases f : x = z
      · subst f; simp at h k ⊢; exact lessL_trans xs ys zs h k
      · rw [if_neg f] at k ⊢; exact k
    · rw [if_neg e] at h
      by_cases f : y = z
      · subst f; rw [if_neg e]; exact h
      · rw [if_neg f] at k
        have h' : x < y := by simpa using h
        have k' : y < z := by simpa using k
        have hk := UInt8.lt_trans h' k'
        rw [if_neg (fun g => by subst g; exact absurd hk (UInt8.lt_irrefl _))]
        simpa using hk
theorem lessL_tri : ∀ a b, a.length = b.length → lessL a b = false → lessL b a = false → a = b
  | [], [], _, _, _ => rfl
  | [], _ :: _, h, _, _ => by simp at h
  | _ :: _, [], h, _, _ => by simp at h
  | x :: xs, y :: ys, hl, h, k => by
    unfold lessL at h k
    by_cases e : x = y
    · subst e; simp at h k; rw [lessL_tri xs ys (by simpa using hl) h k]
    · rw [if_neg e] at h; rw [if_neg (Ne.symm e)] at k
      simp at h k
      exact absurd (UInt8.le_antisymm k h) e

theorem lessR_irrefl (a : Rt) : lessR a a = false := lessL_irrefl _
theorem lessR_asymm {a b : Rt} (h : lessR a b = true) : lessR b a = false := lessL_asymm _ _ h
theorem lessR_trans {a b c : Rt} (h : lessR a b = true) (k : lessR b c = true) : lessR a c = true := lessL_trans _ _ _ h k
theorem lessR_tri {a b : Rt} (h : lessR a b = false) (k : lessR b a = false) : a = b := by
  have := lessL_tri a.toList b.toList (by simp) h k
  exact Vector.toList_inj.1 this

theorem getD_in (l : List UInt8) {k : Nat} (h : k < l.length) : l.getD k 0 = l[k] := by simp [h]

/-- The order from place k on. -/
def lessFrom (a b : Rt) (k : Nat) : Bool := lessL (a.toList.drop k) (b.toList.drop k)
theorem lessFrom_zero (a b : Rt) : lessFrom a b 0 = lessR a b := rfl
theorem lessFrom_end (a b : Rt) : lessFrom a b 32 = false := by
  unfold lessFrom
  rw [List.drop_of_length_le (by simp)]
  rfl
theorem lessFrom_same (a b : Rt) (k : Nat) (hk : k < 32) (h : at8 a k = at8 b k) : lessFrom a b k = lessFrom a b (k + 1) := by
  unfold lessFrom
  have ha : k < a.toList.length := by simp; omega
  have hb : k < b.toList.length := by simp; omega
  have e : a.toList[k] = b.toList[k] := by
    have h' : (a.toList.getD k 0).toNat = (b.toList.getD k 0).toNat := by unfold at8 at h; omega
    rw [getD_in _ ha, getD_in _ hb] at h'
    exact UInt8.toNat_inj.1 h'
  rw [List.drop_eq_getElem_cons ha, List.drop_eq_getElem_cons hb, lessL, if_pos e]
theorem lessFrom_other (a b : Rt) (k : Nat) (hk : k < 32) (h : at8 a k ≠ at8 b k) : lessFrom a b k = decide (at8 a k < at8 b k) := by
  unfold lessFrom
  have ha : k < a.toList.length := by simp; omega
  have hb : k < b.toList.length := by simp; omega
  unfold at8 at h ⊢
  rw [getD_in _ ha, getD_in _ hb] at h ⊢
  rw [List.drop_eq_getElem_cons ha, List.drop_eq_getElem_cons hb, lessL, if_neg (fun g => h (by rw [g]))]
  rw [decide_eq_decide, UInt8.lt_iff_toNat_lt]
  omega

/-- New blocks and draws alone. -/
theorem below_grow (w : World) (q : Nat) (os : Array Obj) : Below w.heap.size w (Sort.grow (w.drewN q) os) := by
  refine ⟨rfl, rfl, rfl, ?_, fun i hi => ?_⟩
  · show w.heap.size ≤ (Sort.grow (w.drewN q) os).heap.size
    rw [Sort.size_grow]; exact Nat.le_add_right _ _
  · show (w.heap ++ os)[i]? = w.heap[i]?
    rw [Array.getElem?_append_left hi]
end Go.Proofs.Ytlhnjaeocoafnaa
namespace Go.Proofs.Ytlhnjaeocoafnaa
open Go.RowKit
set_option maxRecDepth 100000
section
variable {P : Program}

/-- The n cells to which a pointer leads, all of them. -/
def ldA (w : World) (v : Value) (n : Nat) : Option (Array Value) :=
  match v with
  | .pointer (some ⟨b, o, none⟩) => ((List.range n).mapM fun j => w.cell? ⟨b, o + j, none⟩).map List.toArray
  | _ => none
/-- They may be written. -/
def wrA (w : World) (v : Value) (n : Nat) : Bool :=
  match v with
  | .pointer (some ⟨b, o, none⟩) => (List.range n).all fun j => (w.cell? ⟨b, o + j, none⟩).isSome && !w.frozen? ⟨b, o + j, none⟩
  | _ => false
/-- The world with these cells there. -/
def stA (w : World) (v : Value) (x : Value) : World :=
  match v, x with
  | .pointer (some ⟨b, o, none⟩), .agg c => w.setCells b o c.toList
  | _, _ => w
/-- An aggregate of n cells, each of one. -/
def okA (n : Nat) (x : Value) : Bool :=
  match x with
  | .agg c => c.size == n && c.all (·.oneCell')
  | _ => false

theorem mapM_some {α β : Type} (f : α → Option β) : ∀ (l : List α) (r : List β), l.mapM f = some r → r.length = l.length ∧ ∀ (j : Nat) (x : α), l[j]? = some x → ∃ y, r[j]? = some y ∧ f x = some y
  | [], r, h => by simp at h; subst h; simp
  | a :: l, r, h => by
    rw [List.mapM_cons] at h
    simp only [bind, Option.bind_eq_some_iff, pure, Option.some.injEq] at h
    obtain ⟨y, hy, ys, hys, rfl⟩ := h
    obtain ⟨h1, h2⟩ := mapM_some f l ys hys
    refine ⟨by simp [h1], fun j x hx => ?_⟩
    cases j with
    | zero => simp at hx; subst hx; exact ⟨y, by simp, hy⟩
    | succ j => simpa using h2 j x (by simpa using hx)
theorem mapM_mk {α β : Type} (f : α → Option β) : ∀ (l : List α) (r : List β), r.length = l.length → (∀ (j : Nat) (x : α) (y : β), l[j]? = some x → r[j]? = some y → f x = some y) → l.mapM f = some r
  | [], r, hl, _ => by simp at hl; simp [hl]
  | a :: l, [], hl, _ => by simp at hl
  | a :: l, y :: r, hl, h => by
    rw [List.mapM_cons, h 0 a y (by simp) (by simp), mapM_mk f l r (by simpa using hl) (fun j x z hx hz => h (j + 1) x z (by simpa using hx) (by simpa using hz))]
    rfl

theorem ldA_range {w : World} {b o n : Nat} {c : Array Value} (h : ldA w (.pointer (some ⟨b, o, none⟩)) n = some c) : c.size = n ∧ w.rangeAt b o c.toList := by
  simp only [ldA, Option.map_eq_some_iff] at h
  obtain ⟨l, hl, rfl⟩ := h
  obtain ⟨h1, h2⟩ := mapM_some _ _ _ hl
  refine ⟨by simpa using h1, fun j v hv => ?_⟩
  have hj : j < l.length := by
    have := (List.getElem?_eq_some_iff.1 (by simpa using hv : l[j]? = some v)).1; exact this
  obtain ⟨y, hy, hc⟩ := h2 j j (by rw [List.getElem?_range (by simpa [h1] using hj)])
  have : v = y := by
    have e : l[j]? = some v := by simpa using hv
    rw [e] at hy; exact Option.some.inj hy
  subst this
  exact hc
theorem ldA_mk {w : World} {b o n : Nat} {c : Array Value} (hn : c.size = n) (h : w.rangeAt b o c.toList) : ldA w (.pointer (some ⟨b, o, none⟩)) n = some c := by
  simp only [ldA]
  rw [mapM_mk _ (List.range n) c.toList (by simpa using hn) (fun j x y hx hy => ?_)]
  · simp
  · have hx' : x = j := by
      have := List.getElem?_eq_some_iff.1 hx
      obtain ⟨_, e⟩ := this
      simpa using e.symm
    subst hx'
    exact h x y hy
theorem ldA_congr {w w' : World} {b o n : Nat} (h : ∀ j, j < n → w'.cell? ⟨b, o + j, none⟩ = w.cell? ⟨b, o + j, none⟩) : ldA w' (.pointer (some ⟨b, o, none⟩)) n = ldA w (.pointer (some ⟨b, o, none⟩)) n := by
  simp only [ldA]
  congr 1
  have : ∀ l : List Nat, (∀ j ∈ l, j < n) → l.mapM (fun j => w'.cell? ⟨b, o + j, none⟩) = l.mapM (fun j => w.cell? ⟨b, o + j, none⟩) := by
    intro l
    induction l with
    | nil => intro _; rfl
    | cons a l ih =>
      intro hl
      rw [List.mapM_cons, List.mapM_cons, h a (hl a (by simp)), ih (fun j hj => hl j (by simp [hj]))]
  exact this _ (fun j hj => List.mem_range.1 hj)
theorem wrA_there {w : World} {b o n : Nat} : wrA w (.pointer (some ⟨b, o, none⟩)) n = true ↔ w.there b o n := by
  simp [wrA, World.there, List.all_eq_true]
theorem wrA_congr {w w' : World} {b o n : Nat} (h : ∀ j, j < n → w'.cell? ⟨b, o + j, none⟩ = w.cell? ⟨b, o + j, none⟩) (hf : ∀ j, j < n → w'.frozen? ⟨b, o + j, none⟩ = w.frozen? ⟨b, o + j, none⟩) : wrA w' (.pointer (some ⟨b, o, none⟩)) n = wrA w (.pointer (some ⟨b, o, none⟩)) n := by
  rw [Bool.eq_iff_iff, wrA_there, wrA_there]
  unfold World.there
  exact ⟨fun k j hj => by rw [← h j hj, ← hf j hj]; exact k j hj, fun k j hj => by rw [h j hj, hf j hj]; exact k j hj⟩

/-! ### The operations, run -/
theorem run_loadVar_agg {T : TypeId} {n : Nat} (hA : ∀ w, (isAgg T).run P w = .ok true w) (hS : ∀ w, (Go.sizeOf T).run P w = .ok n w) (w : World) (b o : Nat) (c : Array Value) (h : ldA w (.pointer (some ⟨b, o, none⟩)) n = some c) :
    (loadVar T ⟨b, o, none⟩).run P w = .ok (.agg c) w := by
  obtain ⟨hn, hr⟩ := ldA_range h
  have hl : (loadCells ⟨b, o, none⟩ c.toList.length).run P w = .ok c.toList.toArray w :=
    run_loadCells_list (P := P) w ⟨b, o, none⟩ c.toList (fun j v hv => by rw [Addr.add_mid]; exact hr j v hv)
  rw [show c.toList.length = n by simpa using hn, Array.toArray_toList] at hl
  simp [loadVar, Sem.run_bind, hA, hS, hl]
theorem ldA_ptr {w : World} {v : Value} {n : Nat} (h : (ldA w v n).isSome = true) : ∃ b o c, v = .pointer (some ⟨b, o, none⟩) ∧ ldA w v n = some c := by
  obtain ⟨c, hc⟩ := Option.isSome_iff_exists.1 h
  have hc' := hc
  unfold ldA at hc'
  split at hc'
  · rename_i b o
    exact ⟨b, o, c, rfl, hc⟩
  · cases hc'

/-- The load of an aggregate, whole. -/
theorem run_load_agg {T : TypeId} {n : Nat} (hA : ∀ w, (isAgg T).run P w = .ok true w) (hS : ∀ w, (Go.sizeOf T).run P w = .ok n w)
    (ρ : Operand → Value) (dst : Option Tmp) (x : Operand) (ty : TypeId) (pos : String) (after : Array Edge) (guard : Option (Nat × Bool)) (w : World) (h : (ldA w (ρ x) n).isSome = true) :
    (execOp ρ { dst, op := .load T x, type := ty, pos, after, guard }).run P w = .ok (.value (.agg ((ldA w (ρ x) n).getD #[]))) w := by
  obtain ⟨b, o, c, hv, hc⟩ := ldA_ptr h
  rw [hc]
  rw [hv] at hc
  unfold execOp
  simp only [hv, Instr.loadAt, Instr.sureAddr, Sem.run_bind, Sem.run_pure, Result.andThen_ok, run_loadVar_agg hA hS w b o c hc, Option.getD_some]

/-- The store of an aggregate, whole. -/
theorem run_store_agg {T : TypeId} {n : Nat} (hS : ∀ w, (Go.sizeOf T).run P w = .ok n w)
    (ρ : Operand → Value) (dst : Option Tmp) (x y : Operand) (ty : TypeId) (pos : String) (after : Array Edge) (guard : Option (Nat × Bool)) (w : World) (h : wrA w (ρ x) n = true) (hy : okA n (ρ y) = true) :
    (execOp ρ { dst, op := .store T x y, type := ty, pos, after, guard }).run P w = .ok .skip (stA w (ρ x) (ρ y)) := by
  obtain ⟨c, hc, hn, h1⟩ : ∃ c, ρ y = .agg c ∧ c.size = n ∧ c.all (·.oneCell') = true := by
    unfold okA at hy
    split at hy
    · rename_i c hc
      rw [Bool.and_eq_true, beq_iff_eq] at hy
      exact ⟨c, hc, hy.1, hy.2⟩
    · cases hy
  obtain ⟨b, o, hv⟩ : ∃ b o, ρ x = .pointer (some ⟨b, o, none⟩) := by
    unfold wrA at h
    split at h
    · rename_i b o hb; exact ⟨b, o, hb⟩
    · cases h
  rw [hv] at h
  have ht := wrA_there.1 h
  have := run_storeCells_cells (P := P) b o c.toList 0 w (fun j hj => by simpa using (ht j (by simpa [hn] using hj)).1) (fun j hj => by simpa using (ht j (by simpa [hn] using hj)).2)
    (fun v hv => (Array.all_eq_true_iff_forall_mem.1 h1) v (by simpa using hv))
  simp only [Nat.add_zero] at this
  unfold execOp
  simp only [hv, hc, stA]
  simp [Instr.storeAt, Instr.sureAddr, storeVar, hS, Value.cells, hn, this]

/-- What a load comes to: the cells, if all are known. -/
def ldOut (o : Option (Array Value)) (w : World) (r : Result Next) : Result Next :=
  match o with
  | some c => .ok (.value (.agg c)) w
  | none => r
@[go_sem] theorem ldOut_some (c : Array Value) (w : World) (r : Result Next) : ldOut (some c) w r = .ok (.value (.agg c)) w := rfl
/-- What a store comes to. -/
def stOut (b : Bool) (w' : World) (r : Result Next) : Result Next := if b then .ok .skip w' else r
@[go_sem] theorem stOut_true (w' : World) (r : Result Next) : stOut true w' r = .ok .skip w' := rfl
def opRest (P : Program) (ρ : Operand → Value) (o : Oper) (w : World) : Result Next := (execOp ρ o).run P w
theorem run_load_out {T : TypeId} {n : Nat} (hA : ∀ w, (isAgg T).run P w = .ok true w) (hS : ∀ w, (Go.sizeOf T).run P w = .ok n w)
    (ρ : Operand → Value) (dst : Option Tmp) (x : Operand) (ty : TypeId) (pos : String) (after : Array Edge) (guard : Option (Nat × Bool)) (w : World) :
    (execOp ρ { dst, op := .load T x, type := ty, pos, after, guard }).run P w = ldOut (ldA w (ρ x) n) w (opRest P ρ { dst, op := .load T x, type := ty, pos, after, guard } w) := by
  cases h : ldA w (ρ x) n with
  | none => rfl
  | some c => rw [run_load_agg hA hS ρ dst x ty pos after guard w (by rw [h]; rfl), h]; rfl
theorem run_store_out {T : TypeId} {n : Nat} (hS : ∀ w, (Go.sizeOf T).run P w = .ok n w)
    (ρ : Operand → Value) (dst : Option Tmp) (x y : Operand) (ty : TypeId) (pos : String) (after : Array Edge) (guard : Option (Nat × Bool)) (w : World) :
    (execOp ρ { dst, op := .store T x y, type := ty, pos, after, guard }).run P w = stOut (wrA w (ρ x) n && okA n (ρ y)) (stA w (ρ x) (ρ y)) (opRest P ρ { dst, op := .store T x y, type := ty, pos, after, guard } w) := by
  cases h : wrA w (ρ x) n && okA n (ρ y) with
  | false => rfl
  | true =>
    rw [Bool.and_eq_true] at h
    rw [run_store_agg hS ρ dst x y ty pos after guard w h.1 h.2]; rfl

/-! ### What lies there, in the walk's worlds -/
@[go_sem] theorem ldA_drew (w : World) (v : Value) (n : Nat) : ldA w.drew v n = ldA w v n := by
  unfold ldA; split <;> simp
@[go_sem] theorem ldA_drewN (w : World) (v : Value) (n k : Nat) : ldA (w.drewN k) v n = ldA w v n := rfl
@[go_sem] theorem wrA_drew (w : World) (v : Value) (n : Nat) : wrA w.drew v n = wrA w v n := by
  unfold wrA; split <;> simp
@[go_sem] theorem wrA_drewN (w : World) (v : Value) (n k : Nat) : wrA (w.drewN k) v n = wrA w v n := rfl
@[go_sem] theorem ldA_drawn (w : World) (d : Nat) (v : Value) (n : Nat) : ldA { w with drawn := d } v n = ldA w v n := rfl
@[go_sem] theorem wrA_drawn (w : World) (d : Nat) (v : Value) (n : Nat) : wrA { w with drawn := d } v n = wrA w v n := rfl
@[go_sem] theorem ldA_alloc (w : World) (ob : Obj) (b o n : Nat) (h : b < w.heap.size) : ldA (w.alloc ob) (.pointer (some ⟨b, o, none⟩)) n = ldA w (.pointer (some ⟨b, o, none⟩)) n :=
  ldA_congr fun _ _ => World.cell?_alloc_lt _ _ _ h
@[go_sem] theorem wrA_alloc (w : World) (ob : Obj) (b o n : Nat) (h : b < w.heap.size) : wrA (w.alloc ob) (.pointer (some ⟨b, o, none⟩)) n = wrA w (.pointer (some ⟨b, o, none⟩)) n :=
  wrA_congr (fun _ _ => World.cell?_alloc_lt _ _ _ h) (fun _ _ => World.frozen?_alloc_past _ _ _ h)
@[go_sem] theorem ldA_alloc_new (w : World) (c : Array Value) (t : TypeId) (b n : Nat) (h : b = w.heap.size) (hn : c.size = n) : ldA (w.alloc (.cells c t)) (.pointer (some ⟨b, 0, none⟩)) n = some c := by
  subst h
  refine ldA_mk hn fun j v hv => ?_
  rw [Nat.zero_add, cell_of_row _ _ j c t _ (heap_alloc_last w _)]
  simpa using hv
@[go_sem] theorem wrA_alloc_new (w : World) (c : Array Value) (t : TypeId) (b n : Nat) (h : b = w.heap.size) (hn : c.size = n) : wrA (w.alloc (.cells c t)) (.pointer (some ⟨b, 0, none⟩)) n = true := by
  subst h
  rw [wrA_there]
  intro j hj
  rw [Nat.zero_add, cell_of_row _ _ j c t _ (heap_alloc_last w _), frozen_of_row _ _ j c t (heap_alloc_last w _)]
  exact ⟨by rw [Array.getElem?_eq_getElem (by omega)]; rfl, rfl⟩
theorem setCells_alloc_list (w : World) (t : TypeId) : ∀ (vs : List Value) (o : Nat) (c : Array Value), (w.alloc (.cells c t)).setCells w.heap.size o vs = w.alloc (.cells ((vs.zipIdx o).foldl (fun c p => c.setIfInBounds p.2 p.1) c) t)
  | [], _, _ => rfl
  | v :: r, o, c => by
    rw [World.setCells, World.setCell_alloc_new, setCells_alloc_list w t r (o + 1)]
    rfl
theorem foldl_set : ∀ (vs : List Value) (o : Nat) (c : Array Value), (∀ j, (((vs.zipIdx o).foldl (fun c p => c.setIfInBounds p.2 p.1) c) : Array Value)[j]? = if o ≤ j ∧ j < o + vs.length ∧ j < c.size then vs[j - o]? else c[j]?)
  | [], o, c, j => by
    simp
    intros; omega
  | v :: r, o, c, j => by
    rw [List.zipIdx_cons, List.foldl_cons, foldl_set r (o + 1) _ j]
    simp only [Array.size_setIfInBounds, Array.getElem?_setIfInBounds, List.length_cons]
    by_cases h1 : o + 1 ≤ j ∧ j < o + 1 + r.length ∧ j < c.size
    · rw [if_pos h1, if_pos (by omega), show j - o = (j - (o + 1)) + 1 by omega]
      simp
    · rw [if_neg h1]
      by_cases h2 : o = j
      · subst h2
        by_cases h3 : o < c.size
        · rw [if_pos rfl, if_pos h3, if_pos (by omega)]; simp
        · rw [if_pos rfl, if_neg h3, if_neg (by omega), Array.getElem?_eq_none (by omega)]
      · rw [if_neg h2, if_neg (by omega)]
@[go_sem] theorem stA_alloc_new (w : World) (c c' : Array Value) (t : TypeId) (b : Nat) (h : b = w.heap.size) (hn : c.size = c'.size) : stA (w.alloc (.cells c t)) (.pointer (some ⟨b, 0, none⟩)) (.agg c') = w.alloc (.cells c' t) := by
  subst h
  show (w.alloc (.cells c t)).setCells w.heap.size 0 c'.toList = _
  rw [setCells_alloc_list]
  congr 2
  apply Array.ext_getElem?
  intro j
  rw [foldl_set]
  by_cases hj : j < c'.size
  · rw [if_pos (by simp; omega)]; simp
  · rw [if_neg (by simp; omega), Array.getElem?_eq_none (by omega), Array.getElem?_eq_none (by omega)]
theorem setCells_alloc_past (ob : Obj) (b : Nat) : ∀ (vs : List Value) (o : Nat) (w : World), b < w.heap.size → (w.alloc ob).setCells b o vs = (w.setCells b o vs).alloc ob
  | [], _, _, _ => rfl
  | v :: r, o, w, h => by
    rw [World.setCells, World.setCells, World.setCell_alloc_past _ _ _ _ h, setCells_alloc_past ob b r (o + 1) _ (by simpa [World.setCell] using h)]
@[go_sem] theorem stA_alloc (w : World) (ob : Obj) (b o : Nat) (x : Value) (h : b < w.heap.size) : stA (w.alloc ob) (.pointer (some ⟨b, o, none⟩)) x = (stA w (.pointer (some ⟨b, o, none⟩)) x).alloc ob := by
  cases x <;> try rfl
  exact setCells_alloc_past ob b _ o w h
theorem size_setCells' (b : Nat) : ∀ (vs : List Value) (o : Nat) (w : World), (w.setCells b o vs).heap.size = w.heap.size
  | [], _, _ => rfl
  | v :: r, o, w => by rw [World.setCells, size_setCells' b r]; simp [World.setCell]
@[go_sem] theorem size_stA (w : World) (v x : Value) : (stA w v x).heap.size = w.heap.size := by
  unfold stA
  split
  · exact size_setCells' _ _ _ _
  · rfl
theorem drewN_setCells (b k : Nat) : ∀ (vs : List Value) (o : Nat) (w : World), (w.drewN k).setCells b o vs = (w.setCells b o vs).drewN k
  | [], _, _ => rfl
  | v :: r, o, w => by rw [World.setCells, World.setCells, ← drewN_setCells b k r (o + 1)]; rfl
@[go_sem] theorem stA_drewN (w : World) (v x : Value) (k : Nat) : stA (w.drewN k) v x = (stA w v x).drewN k := by
  unfold stA
  split
  · exact drewN_setCells _ _ _ _ _
  · rfl

/-- Out of a block that is known whole. -/
theorem ldA_block {w : World} {b n : Nat} {c : Array Value} {t : TypeId} {fr : Nat × Nat} (hb : w.heap[b]? = some (.cells c t fr)) (hn : c.size = n) : ldA w (.pointer (some ⟨b, 0, none⟩)) n = some c := by
  refine ldA_mk hn fun j v hv => ?_
  rw [Nat.zero_add, cell_of_row _ _ j c t _ hb]
  simpa using hv
theorem wrA_block {w : World} {b n : Nat} {c : Array Value} {t : TypeId} (hb : w.heap[b]? = some (.cells c t (0, 0))) (hn : c.size = n) : wrA w (.pointer (some ⟨b, 0, none⟩)) n = true := by
  rw [wrA_there]
  intro j hj
  rw [Nat.zero_add, cell_of_row _ _ j c t _ hb, frozen_of_row _ _ j c t hb]
  exact ⟨by rw [Array.getElem?_eq_getElem (by omega)]; rfl, rfl⟩
theorem ldA_stA_same {w : World} {b o n : Nat} {c : Array Value} (h : wrA w (.pointer (some ⟨b, o, none⟩)) n = true) (hn : c.size = n) : ldA (stA w (.pointer (some ⟨b, o, none⟩)) (.agg c)) (.pointer (some ⟨b, o, none⟩)) n = some c := by
  refine ldA_mk hn ?_
  exact World.rangeAt_setCells_same w b o c.toList (by rw [Array.length_toList, hn]; exact wrA_there.1 h)
theorem heap_setCells (b : Nat) (k : Nat) (hk : k ≠ b) : ∀ (vs : List Value) (o : Nat) (w : World), (w.setCells b o vs).heap[k]? = w.heap[k]?
  | [], _, _ => rfl
  | v :: r, o, w => by rw [World.setCells, heap_setCells b k hk r, heap_setCell_other _ _ _ _ hk]
theorem heap_stA {w : World} {b o k : Nat} {x : Value} (hk : k ≠ b) : (stA w (.pointer (some ⟨b, o, none⟩)) x).heap[k]? = w.heap[k]? := by
  cases x <;> try rfl
  exact heap_setCells b k hk _ _ _
theorem below_setCells {B : Nat} {a : World} {b : Nat} (hb : B ≤ b) : ∀ (vs : List Value) (o : Nat) (w : World), Below B a w → Below B a (w.setCells b o vs)
  | [], _, _, h => h
  | v :: r, o, w, h => by rw [World.setCells]; exact below_setCells hb r (o + 1) _ (h.setCell hb v)
theorem below_stA {B : Nat} {a w : World} {b o : Nat} {x : Value} (h : Below B a w) (hb : B ≤ b) : Below B a (stA w (.pointer (some ⟨b, o, none⟩)) x) := by
  cases x <;> try exact h
  exact below_setCells hb _ _ _ h

/-- Behind a call that left all old blocks as they were. -/
theorem ldA_below {W w1 : World} {B : Nat} (hb : Below B W w1) (b o n : Nat) (h : b < B) : ldA w1 (.pointer (some ⟨b, o, none⟩)) n = ldA W (.pointer (some ⟨b, o, none⟩)) n :=
  ldA_congr fun j _ => hb.cell (p := ⟨b, o + j, none⟩) h
theorem wrA_below {W w1 : World} {B : Nat} (hb : Below B W w1) (b o n : Nat) (h : b < B) : wrA w1 (.pointer (some ⟨b, o, none⟩)) n = wrA W (.pointer (some ⟨b, o, none⟩)) n :=
  wrA_congr (fun j _ => hb.cell (p := ⟨b, o + j, none⟩) h) (fun j _ => hb.frozen (p := ⟨b, o + j, none⟩) h)
/-- A range, kept. -/
theorem keepR {W w1 : World} (g : Below W.heap.size W w1) {b o : Nat} {cs : List Value} (h : W.rangeAt b o cs) : w1.rangeAt b o cs := fun j v hv => by
  have := h j v hv
  rw [g.cell (p := ⟨b, o + j, none⟩) (block_lt_of_cell this)]; exact this
theorem ldA_lt {w : World} {b o n : Nat} {c : Array Value} (h : ldA w (.pointer (some ⟨b, o, none⟩)) n = some c) (hn : 0 < n) : b < w.heap.size := by
  obtain ⟨h1, h2⟩ := ldA_range h
  have hc : c.toList[0]? = some (c[0]'(by omega)) := by simp
  exact block_lt_of_cell (h2 0 _ hc)
/-- What lay there lies there behind a call that has only made new memory. -/
theorem keep {W w1 : World} (g : Below W.heap.size W w1) {v : Value} {n : Nat} {c : Array Value} (h : ldA W v n = some c) (hn : 0 < n := by decide) : ldA w1 v n = some c := by
  obtain ⟨b, o, _, rfl, _⟩ := ldA_ptr (by rw [h]; rfl : (ldA W v n).isSome = true)
  rw [ldA_below g b o n (ldA_lt h hn), h]

/-! ### A region that draws its order, whose operations read and whose callees make new memory alone: one walk, in the text's order -/
/-- A world in which all that lay in W lies as it did. -/
structure Wd (W : World) where
  w : World
  h : Below W.heap.size W w
instance (W : World) : Inhabited (Wd W) := ⟨⟨W, Below.refl _ _⟩⟩
theorem wp_region_grown {id : Nat} {Q : Exit → Act → World → Prop} {a : Act} {w : World} {l : List Oper} (hm : P.follows .mixedOrders = true) (hB : Region.lexB .any l.toArray = true)
    (h : wpQuiet P l.toArray (fun w' => ∃ p : Wd w, w' = p.w) (fun a' => ∀ w', (∃ p : Wd w, w' = p.w) → Q .normal a' w') l a) : (Code.region id l.toArray true).wp P Q a w :=
  wp_region_quiet (C := fun w' => ∃ p : Wd w, w' = p.w) hm hB ⟨⟨{ w with drawn := w.drawn + 1 }, ⟨rfl, rfl, rfl, Nat.le_refl _, fun _ _ => rfl⟩⟩, rfl⟩ (by simpa using h)
theorem calls_wd {W : World} {f : FuncId} {args : Array Value} {p : Wd W} {v : Value} (h : Calls P f args p.w fun e w' => e = .returned v ∧ Below p.w.heap.size p.w w') : Calls P f args p.w fun e w'' => e = .returned v ∧ ∃ q : Wd W, w'' = q.w :=
  h.mono fun _ w'' ⟨he, hb⟩ => ⟨he, ⟨w'', p.h.trans (hb.mono p.h.size)⟩, rfl⟩
theorem ldA_wd {W : World} {v : Value} {n : Nat} {c : Array Value} (h : ldA W v n = some c) (hn : 0 < n := by decide) (p : Wd W) : ldA p.w v n = some c := keep p.h h hn
end
end Go.Proofs.Ytlhnjaeocoafnaa
