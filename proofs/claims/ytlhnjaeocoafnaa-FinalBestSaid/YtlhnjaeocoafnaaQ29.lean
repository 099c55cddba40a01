/-
  What is asked of tree, link and stake by the laws of layer 16.
  A slice of two checkpoints, written out.
  s[:n] of elements of any number of cells; for every program.
  A uint64 that comes in, as a number of that kind.
  Roots as keys of a map; in any translation that has api.Root.
  The places of a tree's nodes by their roots, plainly: what a map that is filled node by node holds.
-/
import Derived.Test.YtlhnjaeocoafnaaQ27
import Derived.Test.YtlhnjaeocoafnaaQ14
import Derived.Test.YtlhnjaeocoafnaaQ25
import Derived.Test.YtlhnjaeocoafnaaQ06
import Derived.Test.YtlhnjaeocoafnaaQ07
import Derived.Test.YtlhnjaeocoafnaaQ02
import Derived.Maps.OwnSet
import Derived.Maps.AppendAt
import Derived.WideKeyArr2
import Derived.Test.YtlhnjaeocoafnaaQ04
namespace Go.Proofs.Ytlhnjaeocoafnaa
open Go.RowKit
set_option maxRecDepth 100000

/-- What is asked of tree, link and stake. -/
structure Beside16 : Prop where
  tmay : ∀ (s : SlV) (l : List Nd) (w : World), SlE Ene w (sv s) l → Calls Try.prog 22 #[.agg (tr ⟨s⟩)] w fun e w' => e = .returned (.bool (decide (MayT l))) ∧ Below w.heap.size w w'
  find : ∀ (s : SlV) (l : List Nd) (r : Rt) (w : World), SlE Ene w (sv s) l → Calls Try.prog 25 #[.agg (tr ⟨s⟩), .agg (rc r)] w fun e w' => e = .returned (.int .i64 (findT l r)) ∧ Below w.heap.size w w'
  above : ∀ (s : SlV) (l : List Nd) (i k : Int) (w : World), SlE Ene w (sv s) l → Calls Try.prog 29 #[.agg (tr ⟨s⟩), .int .i64 i, .int .i64 k] w fun e w' => e = .returned (.bool (aboveZ l i k)) ∧ Below w.heap.size w w'
  lmay : ∀ (v : Value) (l : List Lk) (w : World), SlE Elk w v l → Calls Try.prog 23 #[v] w fun e w' => e = .returned (.bool (mayL l)) ∧ Below w.heap.size w w'
  guilty : ∀ (v : Value) (l : List Lk) (w : World), SlE Elk w v l → l.length ≤ 1000 → Calls Try.prog 27 #[v] w fun e w' => e = .returned (.int .u64 ((guiltT l).toNat : Int)) ∧ Below w.heap.size w w'
  smay : ∀ (v : Value) (l : List UInt64) (w : World), SlE Enum w v l → Calls Try.prog 24 #[v] w fun e w' => e = .returned (.bool (mayB l)) ∧ Below w.heap.size w w'
  some : ∀ (v : Value) (l : List UInt64) (m : UInt64) (w : World), SlE Enum w v l → Calls Try.prog 26 #[v, .int .u64 (m.toNat : Int)] w fun e w' => e = .returned (.bool (someS l m)) ∧ Below w.heap.size w w'
end Go.Proofs.Ytlhnjaeocoafnaa
namespace Go.Proofs.Ytlhnjaeocoafnaa
open Go.RowKit
set_option maxRecDepth 100000
@[go_sem ↓] theorem buildSlice2_cc (ρ : Operand → Value) (dst : Option Tmp) (x y : Operand) (ty : TypeId) (pos : String) (after : Array Edge) (guard : Option (Nat × Bool)) (w : World) (hx : okA 33 (ρ x) = true) (hy : okA 33 (ρ y) = true) :
    (execOp ρ { dst, op := .buildSlice 27 2 #[(0, x), (1, y)], type := ty, pos, after, guard }).run Try.prog w = .ok (.value (.slice (some ⟨w.heap.size, 0, none⟩) 2 2)) (w.alloc (.cells (cellsA (ρ x) ++ cellsA (ρ y)) 32)) := by
  obtain ⟨c, hc, hn⟩ := okA_agg hx
  obtain ⟨d, hd, hm⟩ := okA_agg hy
  have hp : (2 * 33 > 2 ^ 24) = False := by simp
  have h0 : (2 * 33 = 0) = False := by simp
  unfold execOp
  simp only [Instr.buildSlice, Sem.run_bind, run_underlying Try.underlying27, Result.andThen_ok, Try.sizeOf32, hp, h0, if_false, zero_cc, Value.cells]
  simp only [List.map_toArray, List.map_cons, List.map_nil, hc, hd, Instr.fill, Value.cells, hn, hm]
  simp only [Sem.run_pure, Result.andThen_ok]
  generalize hz : (Array.range (2 * 33)).map (fun x => (cc zcc)[x % (cc zcc).size]!) = z
  have hzs : z.size = 2 * 33 := by rw [← hz]; simp
  have h1 := foldl_size c 0 z
  have h2 := fold2 33 z c d hzs hn hm
  simp only [Nat.zero_mul, Nat.one_mul, h1, h2, hzs]
  simp [cellsA]
  rfl
theorem cc_lit2 (w : World) (x y : Ck) (b : Nat) (hb : b = w.heap.size) : SlE Ecc (w.alloc (.cells (cc x ++ cc y) 32)) (.slice (some ⟨b, 0, none⟩) 2 2) [x, y] :=
  slE_lit w _ 2 _ _ b rfl hb (by simp [cellsE, Ecc, cc_list])
end Go.Proofs.Ytlhnjaeocoafnaa
namespace Go.Proofs.Ytlhnjaeocoafnaa
open Go.RowKit
set_option maxRecDepth 100000
section
variable {α : Type} {E : Lie α} {P : Program}
def cutTE (n : Nat) (v hi : Value) : Option Value :=
  match v, hi with
  | .slice a _ cap, .int _ h => if 0 ≤ h ∧ h ≤ cap then some (sliced a 0 h.toNat cap n) else none
  | _, _ => none
theorem slice_to_E {T e : TypeId} {n : Nat} (hT : P.underlying T = some (.slice e)) (hs : ∀ w, (Go.sizeOf e).run P w = .ok n w) (ρ : Operand → Value) (dst : Option Tmp) (x hi : Operand) (ty : TypeId) (pos : String) (after : Array Edge) (guard : Option (Nat × Bool)) (w : World) :
    (execOp ρ { dst, op := .slice T x none (some hi) none, type := ty, pos, after, guard }).run P w = vOutE (cutTE n (ρ x) (ρ hi)) w (opRest P ρ { dst, op := .slice T x none (some hi) none, type := ty, pos, after, guard } w) := by
  have hu : P.underlying T = some (.slice (P.elem T)) := by simp [Program.elem, hT]
  have he : P.elem T = e := by simp [Program.elem, hT]
  cases h : cutTE n (ρ x) (ρ hi) with
  | none => rfl
  | some v =>
    unfold cutTE at h
    split at h
    · rename_i a len cap k l hx hl
      split at h
      · rename_i hb
        have hv := Option.some.inj h
        subst hv
        unfold execOp
        simp only [hx, hl, Option.map_some, Option.map_none, Sem.run_bind]
        rw [run_sliceAt_slice w _ _ _ _ _ hu, run_slice_h w _ a len cap hu k l hb.1 hb.2, he, hs]
        rfl
      · cases h
    · cases h
theorem cut_toE (p : Option Addr) (cap : Nat) (l : List α) (n : Nat) (hn : n ≤ l.length) (hc : l.length ≤ cap) : ∃ vr, cutTE E.n (.slice p l.length cap) (.int .i64 (n : Int)) = some vr ∧ ∀ (w : World), SlE E w (.slice p l.length cap) l → SlE E w vr (l.take n) := by
  refine ⟨sliced p 0 n cap E.n, ?_, fun w h => ?_⟩
  · show (if 0 ≤ (n : Int) ∧ (n : Int) ≤ (cap : Int) then some (sliced p 0 (n : Int).toNat cap E.n) else none) = _
    rw [if_pos (by omega), Int.toNat_natCast]
  · unfold sliced
    have hl : (l.take n).length = n := by rw [List.length_take]; omega
    refine ⟨_, cap, by rw [hl]; rfl, by rw [hl]; omega, ?_⟩
    by_cases e : n = 0
    · left; rw [e, List.take_zero]
    · right
      obtain ⟨b, off, cap', e1, _, hb, hx⟩ := slE_ne h (by omega)
      injection e1 with e2 _ e3
      subst e2 e3
      rw [if_neg (by omega)]
      refine ⟨b, off, by simp [Addr.add], hb, fun j v hv => ?_⟩
      have hsplit : cellsE E l = cellsE E (l.take n) ++ cellsE E (l.drop n) := by rw [← cellsE_append, List.take_append_drop]
      refine hx _ v ?_
      rw [hsplit, List.getElem?_append_left (List.getElem?_eq_some_iff.1 hv).1]
      exact hv
end
end Go.Proofs.Ytlhnjaeocoafnaa
namespace Go.Proofs.Ytlhnjaeocoafnaa
set_option maxRecDepth 100000
theorem u64_of {n : Int} (h : (Lit.int .u64 n).wf = true) : ∃ q : UInt64, n = (q.toNat : Int) := by
  have hb : (decide (IntKind.u64.min ≤ n) && decide (n ≤ IntKind.u64.max)) = true := h
  rw [Bool.and_eq_true, decide_eq_true_eq, decide_eq_true_eq, show IntKind.u64.min = 0 from rfl, show IntKind.u64.max = 18446744073709551615 from rfl] at hb
  refine ⟨UInt64.ofNat n.toNat, ?_⟩
  rw [UInt64.toNat_ofNat', Nat.mod_eq_of_lt (by simp; omega)]
  omega
end Go.Proofs.Ytlhnjaeocoafnaa
namespace Go.Proofs.Ytlhnjaeocoafnaa
open Go.RowKit Go.Maps
set_option maxRecDepth 100000

def lits8 (r : Rt) : List Lit := (List.range 32).map fun i => Lit.int .u8 (at8 r i)
def rk (r : Rt) : Lit := .string (keyBytes (lits8 r))
theorem keyed_root : Keyed Try.prog 30 := Keyed.of_law arr_root.law
theorem wf8 (r : Rt) (i : Nat) : (Lit.int .u8 (at8 r i)).wf = true := by
  have := at8_bd r i
  show (decide (IntKind.u8.min ≤ at8 r i) && decide (at8 r i ≤ IntKind.u8.max)) = true
  rw [Bool.and_eq_true, decide_eq_true_eq, decide_eq_true_eq, show IntKind.u8.min = 0 from rfl, show IntKind.u8.max = 255 from rfl]
  omega
theorem key_root (r : Rt) : keyOf Try.prog 30 (.agg (rc r)) = some (rk r) := by
  have hkt : Try.prog.keyType 30 = true := by kernel_rfl
  have hf : (Value.agg (rc r)).formed Try.prog 30 = true := by simp [Value.formed, Try.underlying30, arr_root.size, rc_size]
  obtain ⟨D, hD⟩ : ∃ D, Try.prog.types.size = D + 1 := ⟨Try.prog.types.size - 1, by have : 1 ≤ Try.prog.types.size := of_decide_eq_true (by kernel_rfl); omega⟩
  unfold keyOf
  simp only [Try.underlying30]
  rw [if_pos (by rw [hkt, hf]; rfl), hD]
  unfold Program.keyLits
  simp only [Try.underlying30, Value.cells]
  rw [if_pos (by rw [arr_root.size]; simp [rc_size]), arr_root.one]
  rw [mapM_mk _ (List.range 32) ((List.range 32).map fun i => [Lit.int .u8 (at8 r i)]) (by simp) (fun j x y hx hy => ?_)]
  · have hfl : ∀ l : List Nat, (l.map fun i => [Lit.int .u8 (at8 r i)]).flatten = l.map fun i => Lit.int .u8 (at8 r i) := fun l => by induction l with | nil => rfl | cons a t ih => simp [ih]
    simp [hfl, rk, lits8]
  · have hj : j < 32 := by simpa using (List.getElem?_eq_some_iff.1 hx).1
    have ex : x = j := by
      obtain ⟨_, e⟩ := List.getElem?_eq_some_iff.1 hx
      simpa using e.symm
    subst ex
    have ey : y = [Lit.int .u8 (at8 r x)] := by
      rw [List.getElem?_map, hx] at hy
      simpa using hy.symm
    subst ey
    have hg : ((rc r).toList.drop (x * 1)).take 1 = [.int .u8 (at8 r x)] := by
      have hl : x < (rc r).toList.length := by simp [rc_size]; exact hj
      rw [Nat.mul_one, List.drop_eq_getElem_cons hl]
      simp [rc_getElem]
    rw [hg]
    unfold Program.keyLits
    simp only [Try.underlying5]
    rw [if_pos ⟨trivial, wf8 r x⟩]
theorem rk_inj {a b : Rt} (h : rk a = rk b) : a = b := by
  have := keyed_root.inj (key_root a) (by rw [h]; exact key_root b)
  injection this with e
  exact rc_inj e
theorem rk_same (a b : Rt) : (rk a).sameKey (rk b) = decide (a = b) := by
  by_cases e : a = b
  · subst e
    rw [WideAt.sameKey_self (keyed_root.key (key_root a))]; simp
  · rw [sameKey_ne (fun h => e (rk_inj h))]; simp [e]
theorem isKey_rk (r : Rt) : WideAt.IsKeyLit (rk r) := keyed_root.key (key_root r)
/-- A map that was there lies as it lay. -/
theorem ownsMap_keep {H : Type} {P : Program} {k : TypeId} {R : Value → Option (DataW H × List MemPlace)} {b n : Nat} {D : DataW H} {W w1 : World} (g : Below W.heap.size W w1) (h : W.ownsMap P k R b n D) : w1.ownsMap P k R b n D := by
  obtain ⟨es, clock, hb, F, hn, hD⟩ := h
  exact ⟨es, clock, (g.block _ (Array.getElem?_eq_some_iff.1 hb).1).trans hb, F, hn, hD⟩
end Go.Proofs.Ytlhnjaeocoafnaa
namespace Go.Proofs.Ytlhnjaeocoafnaa
open Go.RowKit Go.Maps
set_option maxRecDepth 100000

def iL (i : Nat) : DataW Unit := .lit (.int .i64 (i : Int))
def plD (l : List Nd) : Nat → DataW Unit
  | 0 => .map []
  | k + 1 => (plD l k).put (rk (nd l k).root) (iL k)
section
variable {l : List Nd}
theorem plD_tidy (l : List Nd) : ∀ k, Tidy (plD l k)
  | 0 => tidy_empty
  | k + 1 => (plD_tidy l k).put (isKey_rk _) _
theorem plD_has (l : List Nd) (r : Rt) : ∀ k, Maps.has (plD l k) (rk r) = true ↔ ∃ i, i < k ∧ (nd l i).root = r
  | 0 => ⟨fun h => (by cases h), fun ⟨_, h, _⟩ => absurd h (Nat.not_lt_zero _)⟩
  | k + 1 => by
    unfold plD
    by_cases e : (nd l k).root = r
    · rw [e, has_put_same (plD_tidy l k).isMap (isKey_rk r)]
      exact ⟨fun _ => ⟨k, Nat.lt_succ_self k, e⟩, fun _ => rfl⟩
    · rw [has_put_other (fun h => e (rk_inj h).symm), plD_has l r k]
      constructor
      · rintro ⟨i, hi, h⟩; exact ⟨i, by omega, h⟩
      · rintro ⟨i, hi, h⟩
        rcases Nat.lt_succ_iff_lt_or_eq.1 hi with h1 | rfl
        · exact ⟨i, h1, h⟩
        · exact absurd h e
theorem plD_none {r : Rt} {k : Nat} (h : ∀ i, i < k → (nd l i).root ≠ r) : Maps.has (plD l k) (rk r) = false := by
  rw [← Bool.not_eq_true, plD_has]
  rintro ⟨i, hi, e⟩
  exact h i hi e
theorem plD_at {r : Rt} {i : Nat} (z : DataW Unit) (hr : (nd l i).root = r) : ∀ k, i < k → (∀ j, i < j → j < k → (nd l j).root ≠ r) → (plD l k).atKey (rk r) z = iL i
  | 0, h, _ => absurd h (Nat.not_lt_zero _)
  | k + 1, h, hj => by
    unfold plD
    by_cases e : i = k
    · subst e
      rw [hr]
      exact atKey_put_same (plD_tidy l i).isMap (isKey_rk r) _ _
    · rw [atKey_put_other (fun h2 => hj k (by omega) (Nat.lt_succ_self k) (rk_inj h2).symm)]
      exact plD_at z hr k (by omega) fun j h1 h2 => hj j h1 (by omega)
theorem plD_size_le (l : List Nd) : ∀ k, Maps.size (plD l k) ≤ k
  | 0 => Nat.le_refl _
  | k + 1 => by
    have ih := plD_size_le l k
    unfold plD
    rw [size_put (plD_tidy l k)]
    split <;> omega
/-- As many entries as nodes: just if no two are of one root. -/
theorem plD_size (l : List Nd) : ∀ k, Maps.size (plD l k) = k ↔ ∀ i, i < k → ∀ j, j < i → (nd l j).root ≠ (nd l i).root
  | 0 => ⟨fun _ i h => absurd h (Nat.not_lt_zero _), fun _ => rfl⟩
  | k + 1 => by
    have ih := plD_size l k
    have hle := plD_size_le l k
    unfold plD
    rw [size_put (plD_tidy l k)]
    by_cases hh : Maps.has (plD l k) (rk (nd l k).root) = true
    · rw [if_pos hh]
      obtain ⟨i, hi, e⟩ := (plD_has l _ k).1 hh
      exact ⟨fun h => by omega, fun h => absurd e (h k (Nat.lt_succ_self k) i hi)⟩
    · rw [if_neg hh]
      constructor
      · intro h i hi j hj
        rcases Nat.lt_succ_iff_lt_or_eq.1 hi with h1 | rfl
        · exact ih.1 (by omega) i h1 j hj
        · intro e
          exact hh ((plD_has l _ i).2 ⟨j, hj, e⟩)
      · intro h
        have := ih.2 fun i hi j hj => h i (by omega) j hj
        omega
/-- What is sought in a tree that may be. -/
theorem plD_find (h : MayT l) (r : Rt) : Maps.has (plD l l.length) (rk r) = decide (0 ≤ findT l r) ∧ (0 ≤ findT l r → (plD l l.length).atKey (rk r) (iL 0) = .lit (.int .i64 (findT l r))) := by
  rcases find_spec h r with ⟨i, hi, e, hr⟩ | ⟨e, hn⟩
  · rw [e]
    refine ⟨?_, fun _ => plD_at _ hr _ hi fun j h1 h2 e2 => ?_⟩
    · rw [(plD_has l r _).2 ⟨i, hi, hr⟩]
      exact (decide_eq_true (by omega)).symm
    · have := h.roots hi h2 (hr.trans e2.symm)
      omega
  · rw [e]
    exact ⟨by rw [plD_none hn]; rfl, fun h => by omega⟩
end
end Go.Proofs.Ytlhnjaeocoafnaa
