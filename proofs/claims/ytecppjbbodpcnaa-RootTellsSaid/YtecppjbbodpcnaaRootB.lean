/-
  Roots in memory: variables, literals and lists of roots in a walk; roots as keys of a map.
-/
import Derived.Test.YtecppjbbodpcnaaRootA
import Derived.Maps.OwnSet
import Derived.Maps.AppendAt
import Derived.WideKeyArr2
namespace Go.Proofs.Ytecppjbbodpcnaa
open Go.RowKit Go.Maps

/-- The zero root. -/
def zr : Rt := Vector.replicate 32 0
theorem rc_zr : rc zr = #[.int .u8 0, .int .u8 0, .int .u8 0, .int .u8 0, .int .u8 0, .int .u8 0, .int .u8 0, .int .u8 0, .int .u8 0, .int .u8 0, .int .u8 0, .int .u8 0, .int .u8 0, .int .u8 0, .int .u8 0, .int .u8 0, .int .u8 0, .int .u8 0, .int .u8 0, .int .u8 0, .int .u8 0, .int .u8 0, .int .u8 0, .int .u8 0, .int .u8 0, .int .u8 0, .int .u8 0, .int .u8 0, .int .u8 0, .int .u8 0, .int .u8 0, .int .u8 0] := by kernel_rfl
theorem zero_root (w : World) : (zeroValue 23).run Try.prog w = .ok (.agg (rc zr)) w := by
  rw [rc_zr]; exact Try.zeroValue23 w

@[go_sem ↓] theorem alloc_root (ρ : Operand → Value) (dst : Option Tmp) (ty : TypeId) (pos : String) (after : Array Edge) (guard : Option (Nat × Bool)) (w : World) :
    (execOp ρ { dst, op := .alloc 23, type := ty, pos, after, guard }).run Try.prog w = .ok (.value (.pointer (some ⟨w.heap.size, 0, none⟩))) (w.alloc (.cells (rc zr) 23)) := by
  unfold execOp
  simp only [Instr.alloc, Sem.run_bind, zero_root, Result.andThen_ok]
  rfl
@[go_sem ↓] theorem build_root (ρ : Operand → Value) (dst : Option Tmp) (ty : TypeId) (pos : String) (after : Array Edge) (guard : Option (Nat × Bool)) (w : World) :
    (execOp ρ { dst, op := .build 23 #[], type := ty, pos, after, guard }).run Try.prog w = .ok (.value (.agg (rc zr))) w := by
  unfold execOp
  simp only [Instr.build, Sem.run_bind, zero_root, Result.andThen_ok, run_underlying Try.underlying23, Try.sizeOf5]
  simp [Instr.fill, Value.cells]

/-- An aggregate's cells. -/
def cellsA : Value → Array Value
  | .agg c => c
  | _ => #[]
attribute [go_sem] cellsA
theorem foldl_zip (z c : Array Value) (h : c.size = z.size) : Array.foldl (fun cs (p : Value × Nat) => cs.setIfInBounds p.2 p.1) z c.zipIdx 0 c.size = c := by
  have e : Array.foldl (fun cs (p : Value × Nat) => cs.setIfInBounds p.2 p.1) z c.zipIdx 0 c.size = ((c.toList.zipIdx 0).foldl (fun c p => c.setIfInBounds p.2 p.1) z) := by
    have h2 : c.size = c.zipIdx.size := by simp
    rw [h2, ← Array.foldl_toList, Array.toList_zipIdx]
  rw [e]
  apply Array.ext_getElem?
  intro j
  rw [foldl_set]
  by_cases hj : j < c.size
  · rw [if_pos (by simp; omega)]; simp
  · rw [if_neg (by simp; omega), Array.getElem?_eq_none (by omega), Array.getElem?_eq_none (by omega)]
@[go_sem ↓] theorem buildSlice_root (ρ : Operand → Value) (dst : Option Tmp) (x : Operand) (ty : TypeId) (pos : String) (after : Array Edge) (guard : Option (Nat × Bool)) (w : World) (hx : okA 32 (ρ x) = true) :
    (execOp ρ { dst, op := .buildSlice 24 1 #[(0, x)], type := ty, pos, after, guard }).run Try.prog w = .ok (.value (.slice (some ⟨w.heap.size, 0, none⟩) 1 1)) (w.alloc (.cells (cellsA (ρ x)) 23)) := by
  obtain ⟨c, hc, hn⟩ : ∃ c, ρ x = .agg c ∧ c.size = 32 := by
    unfold okA at hx
    split at hx
    · rename_i c hc
      rw [Bool.and_eq_true, beq_iff_eq] at hx
      exact ⟨c, hc, hx.1⟩
    · cases hx
  have hp : (1 * 32 > 2 ^ 24) = False := by simp
  have h0 : (1 * 32 = 0) = False := by simp
  unfold execOp
  simp only [Instr.buildSlice, Sem.run_bind, run_underlying Try.underlying24, Result.andThen_ok, Try.sizeOf23, hp, h0, if_false, zero_root, Value.cells]
  simp only [List.map_toArray, List.map_cons, List.map_nil, hc, Instr.fill, Value.cells, hn, Nat.zero_mul]
  simp [cellsA]
  rw [foldl_zip _ c (by simp [hn])]
  rfl

/-! ### A root as a key of a map -/
def lits8 (r : Rt) : List Lit := (List.range 32).map fun i => Lit.int .u8 (at8 r i)
def rk (r : Rt) : Lit := .string (keyBytes (lits8 r))
theorem arr_root : WideMaps.ArrKey Try.prog 23 5 32 := ⟨Try.underlying23, by kernel_rfl, by kernel_rfl, by kernel_rfl⟩
theorem keyed_root : Keyed Try.prog 23 := Keyed.of_law arr_root.law
theorem wf8 (r : Rt) (i : Nat) : (Lit.int .u8 (at8 r i)).wf = true := by
  have := at8_bd r i
  show (decide (IntKind.u8.min ≤ at8 r i) && decide (at8 r i ≤ IntKind.u8.max)) = true
  rw [Bool.and_eq_true, decide_eq_true_eq, decide_eq_true_eq, show IntKind.u8.min = 0 from rfl, show IntKind.u8.max = 255 from rfl]
  omega
theorem key_root (r : Rt) : keyOf Try.prog 23 (.agg (rc r)) = some (rk r) := by
  have hkt : Try.prog.keyType 23 = true := by kernel_rfl
  have hf : (Value.agg (rc r)).formed Try.prog 23 = true := by simp [Value.formed, Try.underlying23, arr_root.size, rc_size]
  obtain ⟨D, hD⟩ : ∃ D, Try.prog.types.size = D + 1 := ⟨Try.prog.types.size - 1, by have : 1 ≤ Try.prog.types.size := of_decide_eq_true (by kernel_rfl); omega⟩
  unfold keyOf
  simp only [Try.underlying23]
  rw [if_pos (by rw [hkt, hf]; rfl), hD]
  unfold Program.keyLits
  simp only [Try.underlying23, Value.cells]
  rw [if_pos (by rw [arr_root.size]; simp [rc_size]), arr_root.one]
  rw [mapM_mk _ (List.range 32) ((List.range 32).map fun i => [Lit.int .u8 (at8 r i)]) (by simp) (fun j x y hx hy => ?_)]
  · have hfl : ∀ l : List Nat, (l.map fun i => [Lit.int .u8 (at8 r i)]).flatten = l.map fun i => Lit.int .u8 (at8 r i) := fun l => by induction l with | nil => rfl | cons a t ih => simp [ih]
    simp [hfl, rk, lits8]
  · have hj : j < 32 := by simpa using (List.getElem?_eq_some_iff.1 hx).1
    have ex : x = j := by
      obtain ⟨_, e⟩ := List.getElem?_eq_some_iff.1 hx
      simpa using e.symm
    subst ex
    have ey : y = [Lit.int .u8 (at8 r x)] := by
      rw [List.getElem?_map, hx] at hy
      simpa using hy.symm
    subst ey
    have hg : ((rc r).toList.drop (x * 1)).take 1 = [.int .u8 (at8 r x)] := by
      have hl : x < (rc r).toList.length := by simp [rc_size]; exact hj
      rw [Nat.mul_one, List.drop_eq_getElem_cons hl]
      simp [rc_getElem]
    rw [hg]
    unfold Program.keyLits
    simp only [Try.underlying5]
    rw [if_pos ⟨trivial, wf8 r x⟩]
theorem rk_inj {a b : Rt} (h : rk a = rk b) : a = b := by
  have := keyed_root.inj (key_root a) (by rw [h]; exact key_root b)
  injection this with e
  exact rc_inj e
theorem rk_same (a b : Rt) : (rk a).sameKey (rk b) = decide (a = b) := by
  by_cases e : a = b
  · subst e
    rw [WideAt.sameKey_self (keyed_root.key (key_root a))]; simp
  · rw [sameKey_ne (fun h => e (rk_inj h))]; simp [e]

/-! ### Lists of roots, each once -/
def addR (acc : List Rt) (x : Rt) : List Rt := if acc.contains x then acc else acc ++ [x]
def onceR (l : List Rt) (k : Nat) : List Rt := (l.take k).foldl addR []
def setR (l : List Rt) (k : Nat) : DataW Unit := setOf (.agg []) ((onceR l k).map rk)
theorem onceR_zero (l : List Rt) : onceR l 0 = [] := by simp [onceR]
theorem setR_zero (l : List Rt) : setR l 0 = .map [] := by simp [setR, onceR_zero, setOf]
theorem onceR_succ (l : List Rt) (k : Nat) (hk : k < l.length) : onceR l (k + 1) = addR (onceR l k) l[k] := by
  unfold onceR
  rw [List.take_succ_eq_append_getElem hk, List.foldl_append]
  rfl
theorem has_setR (l : List Rt) (k : Nat) (x : Rt) : Maps.has (setR l k) (rk x) = (onceR l k).contains x := by
  unfold setR
  rw [has_setOf _ _ _ (fun y hy => by obtain ⟨r, _, rfl⟩ := List.mem_map.1 hy; exact keyed_root.key (key_root r)), List.any_map]
  generalize onceR l k = m
  induction m with
  | nil => rfl
  | cons a m ih =>
    rw [List.any_cons, List.contains_cons, ih]
    congr 1
    show (rk a).sameKey (rk x) = (x == a)
    rw [rk_same]
    by_cases e : a = x
    · subst e; simp
    · have e' : ¬ x = a := fun h => e h.symm
      simp [e, e']
theorem onceR_le (l : List Rt) : ∀ k, (onceR l k).length ≤ k
  | 0 => by simp [onceR]
  | k + 1 => by
    have ih := onceR_le l k
    by_cases hk : k < l.length
    · rw [onceR_succ l k hk]
      unfold addR
      split
      · omega
      · simp; omega
    · have : onceR l (k + 1) = onceR l k := by unfold onceR; rw [List.take_of_length_le (by omega), List.take_of_length_le (by omega)]
      rw [this]
      omega
theorem onceR_old (l : List Rt) (k : Nat) (hk : k < l.length) (h : (onceR l k).contains l[k] = true) : onceR l (k + 1) = onceR l k := by
  rw [onceR_succ l k hk, addR, if_pos h]
theorem onceR_new (l : List Rt) (k : Nat) (hk : k < l.length) (h : (onceR l k).contains l[k] = false) : onceR l (k + 1) = onceR l k ++ [l[k]] := by
  rw [onceR_succ l k hk, addR, if_neg (by rw [h]; exact Bool.false_ne_true)]
theorem setR_new (l : List Rt) (k : Nat) (hk : k < l.length) (h : (onceR l k).contains l[k] = false) : setR l (k + 1) = (setR l k).put (rk l[k]) (.agg []) := by
  unfold setR
  rw [onceR_new l k hk h, List.map_append, List.map_singleton, setOf_snoc]
theorem onceR_mem (l : List Rt) : ∀ k x, x ∈ onceR l k ↔ x ∈ l.take k
  | 0, x => by simp [onceR]
  | k + 1, x => by
    by_cases hk : k < l.length
    · rw [onceR_succ l k hk, List.take_succ_eq_append_getElem hk, List.mem_append, ← onceR_mem l k x]
      unfold addR
      split
      · rename_i h
        have : l[k] ∈ onceR l k := by simpa using h
        constructor
        · exact fun hx => .inl hx
        · rintro (hx | hx)
          · exact hx
          · rw [List.mem_singleton] at hx; rw [hx]; exact this
      · rw [List.mem_append]
    · have e : onceR l (k + 1) = onceR l k := by unfold onceR; rw [List.take_of_length_le (by omega), List.take_of_length_le (by omega)]
      rw [e, onceR_mem l k x, List.take_of_length_le (by omega), List.take_of_length_le (by omega)]
theorem onceR_nodup (l : List Rt) : ∀ k, (onceR l k).Nodup
  | 0 => by simp [onceR]
  | k + 1 => by
    have ih := onceR_nodup l k
    by_cases hk : k < l.length
    · rw [onceR_succ l k hk]
      unfold addR
      split
      · exact ih
      · rename_i h
        rw [List.nodup_append]
        refine ⟨ih, by simp, ?_⟩
        intro a ha b hb
        rw [List.mem_singleton] at hb
        subst hb
        rintro rfl
        exact h (by simpa using ha)
    · have e : onceR l (k + 1) = onceR l k := by unfold onceR; rw [List.take_of_length_le (by omega), List.take_of_length_le (by omega)]
      rw [e]; exact ih
/-- The cells of a list of roots. -/
def cellsL (l : List Rt) : List Value := l.flatMap fun r => (rc r).toList
theorem cellsL_nil : cellsL [] = [] := rfl
theorem cellsL_snoc (l : List Rt) (r : Rt) : cellsL (l ++ [r]) = cellsL l ++ (rc r).toList := by simp [cellsL]
theorem cellsL_length (l : List Rt) : (cellsL l).length = l.length * 32 := by
  induction l with
  | nil => rfl
  | cons a l ih => rw [cellsL, List.flatMap_cons, List.length_append, ← cellsL, ih]; simp [rc_size]; omega
end Go.Proofs.Ytecppjbbodpcnaa
