/-
  Structs' cells: a stretch laid over others, parts, literals, ==, an argument's fields; for every program.
  Integers, numbers of 64 bits and bools as parts of structs: ==, parts, an argument's cells; in any translation that has them.
  Roots as parts of structs: ==, parts; in any translation that has them (integers, numbers, bools: XPn).
-/
import Derived.Test.YtlhnjaeocoafnaaQ06
import Derived.Laws.StructEq
import Derived.Laws.Small
import Derived.Test.YtlhnjaeocoafnaaRows
import Derived.ChangeMaps5
import Derived.OpenShut
import Derived.Carry
import Derived.Test.YtlhnjaeocoafnaaQ02
namespace Go.Proofs.Ytlhnjaeocoafnaa
open Go.RowKit
set_option maxRecDepth 100000

/-! ### A stretch of cells laid over others -/
def putSeg (c : Array Value) (o : Nat) (r : Array Value) : Array Value := (c.toList.take o ++ (r.toList ++ c.toList.drop (o + r.size))).toArray
theorem putSeg_mid {c : Array Value} {x y z : List Value} {o : Nat} {r : Array Value} (hc : c.toList = x ++ (y ++ z)) (hx : x.length = o) (hy : y.length = r.size) : putSeg c o r = (x ++ (r.toList ++ z)).toArray := by
  unfold putSeg
  rw [hc, List.take_left' hx, ← List.drop_drop, List.drop_left' hx, List.drop_left' hy]
theorem putSeg_size {c : Array Value} {o : Nat} {r : Array Value} (h : o + r.size ≤ c.size) : (putSeg c o r).size = c.size := by
  unfold putSeg
  simp
  omega
theorem putSeg_get {c : Array Value} {o : Nat} {r : Array Value} (h : o + r.size ≤ c.size) (j : Nat) : (putSeg c o r)[j]? = if o ≤ j ∧ j < o + r.size then r[j - o]? else c[j]? := by
  unfold putSeg
  rw [List.getElem?_toArray]
  by_cases h1 : j < o
  · rw [if_neg (by omega), List.getElem?_append_left (by rw [List.length_take, Array.length_toList]; omega), List.getElem?_take, if_pos h1]
    simp
  · have hl : (c.toList.take o).length = o := by rw [List.length_take, Array.length_toList]; omega
    rw [List.getElem?_append_right (by omega), hl]
    by_cases h2 : j < o + r.size
    · rw [if_pos (by omega), List.getElem?_append_left (by rw [Array.length_toList]; omega)]
      simp
    · rw [if_neg (by omega), List.getElem?_append_right (by rw [Array.length_toList]; omega), List.getElem?_drop, Array.length_toList]
      rw [show o + r.size + (j - o - r.size) = j by omega]
      simp
/-- A stretch laid over a part. -/
theorem putSeg_in {c y r : Array Value} {x z : List Value} {o0 o : Nat} (hc : c.toList = x ++ (y.toList ++ z)) (hx : x.length = o0) (h : o + r.size ≤ y.size) : putSeg c (o0 + o) r = putSeg c o0 (putSeg y o r) := by
  have hs : c.size = x.length + (y.size + z.length) := by rw [← Array.length_toList, hc]; simp
  apply Array.ext_getElem?
  intro j
  have hp := putSeg_size (c := y) (o := o) (r := r) h
  rw [putSeg_get (by omega), putSeg_get (by omega), hp]
  by_cases h1 : o0 ≤ j ∧ j < o0 + y.size
  · rw [if_pos h1, putSeg_get h]
    by_cases h2 : o ≤ j - o0 ∧ j - o0 < o + r.size
    · rw [if_pos h2, if_pos (by omega), show j - (o0 + o) = j - o0 - o by omega]
    · have e : c[j]? = y[j - o0]? := by
        rw [← Array.getElem?_toList, hc, List.getElem?_append_right (by omega), hx, List.getElem?_append_left (by simp; omega), Array.getElem?_toList]
      rw [if_neg h2, if_neg (by omega), e]
  · rw [if_neg h1, if_neg (by omega)]
theorem foldl_seg : ∀ (vs : List Value) (k o : Nat) (c : Array Value) (j : Nat), (((vs.zipIdx k).foldl (fun c (p : Value × Nat) => c.setIfInBounds (o + p.2) p.1) c) : Array Value)[j]? = if o + k ≤ j ∧ j < o + k + vs.length ∧ j < c.size then vs[j - (o + k)]? else c[j]?
  | [], k, o, c, j => by
    simp
    intros; omega
  | v :: r, k, o, c, j => by
    rw [List.zipIdx_cons, List.foldl_cons, foldl_seg r (k + 1) o _ j]
    simp only [Array.size_setIfInBounds, Array.getElem?_setIfInBounds, List.length_cons]
    by_cases h1 : o + (k + 1) ≤ j ∧ j < o + (k + 1) + r.length ∧ j < c.size
    · rw [if_pos h1, if_pos (by omega), show j - (o + k) = (j - (o + (k + 1))) + 1 by omega]
      simp
    · rw [if_neg h1]
      by_cases h2 : o + k = j
      · subst h2
        by_cases h3 : o + k < c.size
        · rw [if_pos rfl, if_pos h3, if_pos (by omega)]; simp
        · rw [if_pos rfl, if_neg h3, if_neg (by omega), Array.getElem?_eq_none (by omega)]
      · rw [if_neg h2, if_neg (by omega)]
theorem fill_seg (c : Array Value) (o : Nat) (r : Array Value) (h : o + r.size ≤ c.size) : (r.zipIdx.foldl (fun cs (p : Value × Nat) => cs.setIfInBounds (o + p.2) p.1) c) = putSeg c o r := by
  have e : (r.zipIdx.foldl (fun cs (p : Value × Nat) => cs.setIfInBounds (o + p.2) p.1) c) = ((r.toList.zipIdx 0).foldl (fun c (p : Value × Nat) => c.setIfInBounds (o + p.2) p.1) c) := by
    rw [← Array.foldl_toList, Array.toList_zipIdx]
  rw [e]
  apply Array.ext_getElem?
  intro j
  rw [foldl_seg, putSeg_get h]
  by_cases hj : o ≤ j ∧ j < o + r.size
  · rw [if_pos (by simp; omega), if_pos hj]; simp
  · rw [if_neg (by simp; omega), if_neg hj]
theorem fill_cons (place : Nat → Option (Nat × Nat)) (c : Array Value) (i : Nat) (v : Value) (rest : List (Nat × Value)) (off size : Nat) (hp : place i = some (off, size)) (hs : v.cells.size = size) (hf : off + size ≤ c.size) : Instr.fill place c ((i, v) :: rest) = Instr.fill place (putSeg c off v.cells) rest := by
  rw [Instr.fill]
  simp only [hp]
  rw [if_neg (by simp; omega)]
  congr 1
  exact fill_seg c off v.cells (by omega)

/-! ### A block of a known number of cells -/
section
variable {w : World} {g : Nat} {c : Array Value} {t : TypeId} {fr : Nat × Nat}
theorem ldA_mid {x z : List Value} {o n : Nat} {r : Array Value} (hg : w.heap[g]? = some (.cells c t fr)) (hc : c.toList = x ++ (r.toList ++ z)) (hx : x.length = o) (hr : r.size = n) : ldA w (.pointer (some ⟨g, o, none⟩)) n = some r := by
  refine ldA_mk hr fun j v hv => ?_
  rw [cell_of_row _ _ (o + j) c t _ hg]
  have hj : j < r.toList.length := (List.getElem?_eq_some_iff.1 hv).1
  rw [← Array.getElem?_toList, hc, List.getElem?_append_right (by omega), show o + j - x.length = j by omega, List.getElem?_append_left hj]
  exact hv
set_option maxRecDepth 100000 in
theorem cell_mid {x z : List Value} {o : Nat} {v : Value} (hg : w.heap[g]? = some (.cells c t fr)) (hc : c.toList = x ++ (v :: z)) (hx : x.length = o) : w.cell? ⟨g, o, none⟩ = some v := by
  rw [cell_of_row _ _ o c t _ hg, ← Array.getElem?_toList, hc, List.getElem?_append_right (by omega), show o - x.length = 0 by omega]
  rfl
theorem wrA_mid {o n : Nat} (hg : w.heap[g]? = some (.cells c t (0, 0))) (h : o + n ≤ c.size) : wrA w (.pointer (some ⟨g, o, none⟩)) n = true := by
  rw [wrA_there]
  intro j hj
  rw [cell_of_row _ _ (o + j) c t _ hg, frozen_of_row _ _ (o + j) c t hg]
  exact ⟨by rw [Array.getElem?_eq_getElem (by omega)]; rfl, rfl⟩
theorem heap_setCell_same (hg : w.heap[g]? = some (.cells c t (0, 0))) (o : Nat) (v : Value) : (w.setCell ⟨g, o, none⟩ v).heap[g]? = some (.cells (c.setIfInBounds o v) t (0, 0)) := by
  rw [setCell_eq_setRow w g o c t (0, 0) v hg]
  exact setRow_heap w g c _ t _ hg
theorem heap_setCells_same : ∀ (vs : List Value) (o : Nat) (w : World) (c : Array Value), w.heap[g]? = some (.cells c t (0, 0)) → (w.setCells g o vs).heap[g]? = some (.cells ((vs.zipIdx o).foldl (fun c p => c.setIfInBounds p.2 p.1) c) t (0, 0))
  | [], _, _, _, hg => hg
  | v :: r, o, w, c, hg => by
    rw [World.setCells, heap_setCells_same r (o + 1) _ _ (heap_setCell_same hg o v)]
    rfl
theorem heap_stA_same {o : Nat} {r : Array Value} (hg : w.heap[g]? = some (.cells c t (0, 0))) (h : o + r.size ≤ c.size) : (stA w (.pointer (some ⟨g, o, none⟩)) (.agg r)).heap[g]? = some (.cells (putSeg c o r) t (0, 0)) := by
  show (w.setCells g o r.toList).heap[g]? = _
  rw [heap_setCells_same r.toList o w c hg]
  congr 2
  apply Array.ext_getElem?
  intro j
  rw [foldl_set, putSeg_get h]
  by_cases hj : o ≤ j ∧ j < o + r.size
  · rw [if_pos (by simp; omega), if_pos hj]; simp
  · rw [if_neg (by simp; omega), if_neg hj]
theorem setIfInBounds_seg {o : Nat} {v : Value} (h : o < c.size) : c.setIfInBounds o v = putSeg c o #[v] := by
  apply Array.ext_getElem?
  intro j
  rw [putSeg_get (by simp; omega), Array.getElem?_setIfInBounds]
  by_cases hj : o = j
  · subst hj; rw [if_pos rfl, if_pos h, if_pos (by simp)]; simp
  · rw [if_neg hj, if_neg (by simp; omega)]
end

section
variable {P : Program}
theorem part_agg {T : TypeId} {n : Nat} (hA : ∀ w, (isAgg T).run P w = .ok true w) (hS : ∀ w, (Go.sizeOf T).run P w = .ok n w) (c : Array Value) (o : Nat) (w : World) : (part T c o).run P w = .ok (.agg (c.extract o (o + n))) w := by
  unfold part
  simp [hA, hS]
theorem part_one {T : TypeId} (hA : ∀ w, (isAgg T).run P w = .ok false w) (c : Array Value) (o : Nat) (v : Value) (h : c[o]? = some v) (w : World) : (part T c o).run P w = .ok v w := by
  unfold part
  simp [hA, h]
theorem extract_mid {c r : Array Value} {x z : List Value} {o n : Nat} (hc : c.toList = x ++ (r.toList ++ z)) (hx : x.length = o) (hr : r.size = n) : c.extract o (o + n) = r := by
  apply Array.toList_inj.1
  rw [Array.toList_extract, hc]
  show ((x ++ (r.toList ++ z)).drop o).take (o + n - o) = r.toList
  rw [List.drop_left' hx, List.take_left' (by rw [Array.length_toList, hr]; omega)]
end
theorem get_at {c : Array Value} {x z : List Value} {o : Nat} {v : Value} (hc : c.toList = x ++ (v :: z)) (hx : x.length = o) : c[o]? = some v := by
  rw [← Array.getElem?_toList, hc, List.getElem?_append_right (by omega), show o - x.length = 0 by omega]
  rfl
/-- What is asked of a field: its name, type and place. -/
def fldOf (f : Field) : String × TypeId × Nat := (f.name, f.type, f.offset)
theorem eqF_nil {P : Program} {d : Nat} {xs ys : Array Value} {w : World} {fs : List Field} (hm : fs.map fldOf = []) : (Op.eqFields d xs ys fs).run P w = .ok true w := by
  rw [List.map_eq_nil_iff.1 hm]
  rfl
theorem eqF_cons {P : Program} {d : Nat} {xs ys : Array Value} {n : String} {T : TypeId} {o : Nat} {rest : List (String × TypeId × Nat)} {a b : Value} {r R : Bool} {w : World} {fs : List Field} (hm : fs.map fldOf = (n, T, o) :: rest) (hn : n ≠ "_") (ha : (part T xs o).run P w = .ok a w) (hb : (part T ys o).run P w = .ok b w) (he : (Op.equalIn d T a b).run P w = .ok r w)
    (hr : ∀ gs : List Field, gs.map fldOf = rest → (Op.eqFields d xs ys gs).run P w = .ok R w) : (Op.eqFields d xs ys fs).run P w = .ok (r && R) w := by
  obtain ⟨f, gs, rfl, hf, hg⟩ := List.map_eq_cons_iff.1 hm
  injection hf with h1 h2
  injection h2 with h2 h3
  subst h1 h2 h3
  have hR := hr gs hg
  simp only [Op.eqFields, if_pos hn, Sem.run_bind, ha, hb, he, Result.andThen_ok]
  cases r
  · simp
  · simpa using hR
/-- The parts of a literal laid over the zero cells. -/
def fillA (pl : List (Nat × Nat)) (c : Array Value) : List (Nat × Value) → Option (Array Value)
  | [] => some c
  | (i, v) :: rest =>
    match pl[i]? with
    | some (off, size) => if v.cells.size = size ∧ off + size ≤ c.size then fillA pl (putSeg c off v.cells) rest else none
    | none => none
theorem fill_fillA (pl : List (Nat × Nat)) : ∀ (ps : List (Nat × Value)) (c r : Array Value), fillA pl c ps = some r → Instr.fill (fun i => pl.toArray[i]?) c ps = some r
  | [], c, r, h => h
  | (i, v) :: rest, c, r, h => by
    unfold fillA at h
    cases hp : pl[i]? with
    | none => rw [hp] at h; cases h
    | some os =>
      obtain ⟨off, size⟩ := os
      rw [hp] at h
      dsimp only at h
      split at h
      · rename_i hs
        rw [fill_cons (fun i => pl.toArray[i]?) c i v rest off size (by simpa using hp) hs.1 hs.2]
        exact fill_fillA pl rest _ r h
      · cases h
section
variable {P : Program}
theorem run_build_struct {T : TypeId} {fs : Array Field} {pl : List (Nat × Nat)} {z : Array Value} (hz : ∀ w, (zeroValue T).run P w = .ok (.agg z) w) (hu : P.underlying T = some (.struct fs)) (hp : ∀ w, (fs.mapM (m := Sem) fun f => do pure (f.offset, ← Go.sizeOf f.type)).run P w = .ok pl.toArray w) (parts : Array (Nat × Value)) (w : World) (r : Array Value) (h : fillA pl z parts.toList = some r) :
    (Instr.build T parts).run P w = .ok (.agg r) w := by
  have hf := fill_fillA pl parts.toList z r h
  simp only [Instr.build, Sem.run_bind, hz, Result.andThen_ok, run_underlying hu, hp, Value.cells, hf]
  rfl
theorem build_out {T : TypeId} {fs : Array Field} {pl : List (Nat × Nat)} {z : Array Value} (hz : ∀ w, (zeroValue T).run P w = .ok (.agg z) w) (hu : P.underlying T = some (.struct fs)) (hp : ∀ w, (fs.mapM (m := Sem) fun f => do pure (f.offset, ← Go.sizeOf f.type)).run P w = .ok pl.toArray w)
    (ρ : Operand → Value) (dst : Option Tmp) (ps : Array (Nat × Operand)) (ty : TypeId) (pos : String) (after : Array Edge) (guard : Option (Nat × Bool)) (w : World) :
    (execOp ρ { dst, op := .build T ps, type := ty, pos, after, guard }).run P w = vOutE ((fillA pl z (ps.toList.map fun p => (p.1, ρ p.2))).map .agg) w (opRest P ρ { dst, op := .build T ps, type := ty, pos, after, guard } w) := by
  cases h : fillA pl z (ps.toList.map fun p => (p.1, ρ p.2)) with
  | none => rfl
  | some r =>
    unfold execOp
    simp only [Sem.run_bind]
    rw [run_build_struct hz hu hp _ w r (by simpa using h)]
    rfl
end
attribute [go_sem] fillA
theorem all_one {l : List Value} (h : ∀ v ∈ l, v.oneCell' = true) : l.toArray.all (·.oneCell') = true := by
  rw [Array.all_eq_true_iff_forall_mem]
  intro v hv
  exact h v (by simpa using hv)
section
open Go.WideShapes Go.ChangeShapes
variable {H : Type} {enc : TypeId × Value → H} {P : Program} {w : World} {base : Nat} {sp : Nat → Bool} {held : Bool}
theorem trod_field {T : TypeId} {fs : Array Field} {fl : List (String × TypeId × Nat)} {i : Nat} {n : String} {t : TypeId} {o fuel : Nat} {cs : List Value} {x : DataW H × List MemPlace} (hu : P.underlying T = some (.struct fs)) (hf : fs.toList.map (fun f => (f.name, f.type, f.offset)) = fl) (hi : fl[i]? = some (n, t, o)) (h : DataW.trod enc P w base sp held fuel T cs = some x) :
    ∃ m y, DataW.trod enc P w base sp held m t ((cs.drop o).take (P.cellsOf t)) = some y := by
  obtain ⟨xs, m, _, _, _, hlen, hx⟩ := DataW.trod_struct hu h
  rw [← hf, List.getElem?_map, Option.map_eq_some_iff] at hi
  obtain ⟨f, hfi, e⟩ := hi
  injection e with _ e
  injection e with e1 e2
  have hfa : fs[i]? = some f := by simpa using hfi
  have hi' : i < fs.size := (Array.getElem?_eq_some_iff.1 hfa).1
  have := hx i f hfa
  rw [e1, e2, List.getElem?_eq_getElem (by omega)] at this
  exact ⟨m, _, this⟩
end
theorem take_all {l : List Value} {n : Nat} (h : l.length = n) : l.take n = l := List.take_of_length_le (by omega)
theorem seg_join (l : List Value) (o n : Nat) : (l.drop o).take n ++ l.drop (o + n) = l.drop o := by
  rw [← List.drop_drop]; exact List.take_append_drop n _
theorem range_block {w : World} {g : Nat} {c : Array Value} {t : TypeId} {fr : Nat × Nat} (hg : w.heap[g]? = some (.cells c t fr)) : w.rangeAt g 0 c.toList := fun j v hv => by
  rw [Nat.zero_add, cell_of_row _ _ j c t _ hg]
  simpa using hv
/-- A part of a stretch. -/
theorem range_part {w : World} {b off o : Nat} {cs x y z : List Value} (h : w.rangeAt b off cs) (hc : cs = x ++ (y ++ z)) (hx : x.length = o) : w.rangeAt b (off + o) y := fun j v hv => by
  rw [Nat.add_assoc]
  refine h _ v ?_
  have hj : j < y.length := (List.getElem?_eq_some_iff.1 hv).1
  rw [hc, List.getElem?_append_right (by omega), show o + j - x.length = j by omega, List.getElem?_append_left hj]
  exact hv
theorem range_one {w : World} {b off o : Nat} {cs x z : List Value} {v : Value} (h : w.rangeAt b off cs) (hc : cs = x ++ (v :: z)) (hx : x.length = o) : w.cell? ⟨b, off + o, none⟩ = some v := by
  have := range_part h (show cs = x ++ ([v] ++ z) from hc) hx 0 v rfl
  simpa using this
theorem range_ldA {w : World} {b off o n : Nat} {cs x z : List Value} {r : Array Value} (h : w.rangeAt b off cs) (hc : cs = x ++ (r.toList ++ z)) (hx : x.length = o) (hr : r.size = n) : ldA w (.pointer (some ⟨b, off + o, none⟩)) n = some r :=
  ldA_mk hr (range_part h hc hx)
end Go.Proofs.Ytlhnjaeocoafnaa
namespace Go.Proofs.Ytlhnjaeocoafnaa
open Go.RowKit
set_option maxRecDepth 100000

def num (n : UInt64) : Value := .int .u64 (n.toNat : Int)
attribute [go_sem] num
theorem num_inj {a b : UInt64} (h : num a = num b) : a = b := by
  simp only [num, Value.int.injEq, true_and] at h
  exact UInt64.toNat_inj.1 (by omega)
theorem num_beq (a b : UInt64) : ((a.toNat : Int) == (b.toNat : Int)) = decide (a = b) := by
  rw [Bool.eq_iff_iff, decide_eq_true_iff, beq_iff_eq]
  constructor
  · intro h; exact UInt64.toNat_inj.1 (by omega)
  · intro h; rw [h]
theorem eqNum (n : Nat) (a b : UInt64) (w : World) : (Op.equalIn (n + 1) 28 (num a) (num b)).run Try.prog w = .ok (decide (a = b)) w := by
  unfold num
  rw [run_equalIn_int w n 28 .u64 .u64 _ _ Try.underlying28, num_beq]
theorem eqInt (n : Nat) (a b : Int) (w : World) : (Op.equalIn (n + 1) 3 (.int .i64 a) (.int .i64 b)).run Try.prog w = .ok (decide (a = b)) w := by
  rw [run_equalIn_int w n 3 .i64 .i64 _ _ Try.underlying3]
  rfl
theorem eqBoo (n : Nat) (a b : Bool) (w : World) : (Op.equalIn (n + 1) 4 (.bool a) (.bool b)).run Try.prog w = .ok (decide (a = b)) w := by
  rw [run_equalIn_bool w n 4 _ _ Try.underlying4]
  cases a <;> cases b <;> rfl
theorem partN (c : Array Value) (o : Nat) (n : UInt64) (h : c[o]? = some (num n)) (w : World) : (part 28 c o).run Try.prog w = .ok (num n) w := part_one (P := Try.prog) Try.isAgg28 c o _ h w
theorem partI (c : Array Value) (o : Nat) (n : Int) (h : c[o]? = some (.int .i64 n)) (w : World) : (part 3 c o).run Try.prog w = .ok (.int .i64 n) w := part_one (P := Try.prog) Try.isAgg3 c o _ h w
theorem partB (c : Array Value) (o : Nat) (n : Bool) (h : c[o]? = some (.bool n)) (w : World) : (part 4 c o).run Try.prog w = .ok (.bool n) w := part_one (P := Try.prog) Try.isAgg4 c o _ h w
theorem cellsOf_num : Try.prog.cellsOf 28 = 1 := by kernel_rfl
theorem cellsOf_int : Try.prog.cellsOf 3 = 1 := by kernel_rfl
theorem cellsOf_boo : Try.prog.cellsOf 4 = 1 := by kernel_rfl
def Eint : Lie Int := ⟨3, 1, fun n => [.int .i64 n], by decide, fun _ => rfl, fun _ u h => by rw [List.mem_singleton.1 h]; rfl⟩
def Enum : Lie UInt64 := ⟨28, 1, fun n => [num n], by decide, fun _ => rfl, fun _ u h => by rw [List.mem_singleton.1 h]; rfl⟩
section
open Go.WideShapes Go.ChangeShapes
variable {H : Type} {enc : TypeId × Value → H} {w : World} {base : Nat} {sp : Nat → Bool} {held : Bool}
set_option maxRecDepth 100000 in
theorem cells_num {fuel : Nat} {cs : List Value} {x : DataW H × List MemPlace} (h : DataW.trod enc Try.prog w base sp held fuel 28 cs = some x) : ∃ n : UInt64, cs = [num n] := by
  obtain ⟨n, e1, _, e3⟩ := DataW.trod_int Try.underlying28 h
  have hb : (decide (IntKind.u64.min ≤ n) && decide (n ≤ IntKind.u64.max)) = true := e3
  rw [Bool.and_eq_true, decide_eq_true_eq, decide_eq_true_eq, show IntKind.u64.min = 0 from rfl, show IntKind.u64.max = 18446744073709551615 from rfl] at hb
  refine ⟨UInt64.ofNat n.toNat, ?_⟩
  rw [e1, num, UInt64.toNat_ofNat', Nat.mod_eq_of_lt (by simp; omega)]
  congr 2
  omega
set_option maxRecDepth 100000 in
theorem cells_int {fuel : Nat} {cs : List Value} {x : DataW H × List MemPlace} (h : DataW.trod enc Try.prog w base sp held fuel 3 cs = some x) : ∃ n : Int, cs = [.int .i64 n] := by
  obtain ⟨n, e1, _, _⟩ := DataW.trod_int Try.underlying3 h
  exact ⟨n, e1⟩
set_option maxRecDepth 100000 in
theorem cells_boo {fuel : Nat} {cs : List Value} {x : DataW H × List MemPlace} (h : DataW.trod enc Try.prog w base sp held fuel 4 cs = some x) : ∃ n : Bool, cs = [.bool n] := by
  obtain ⟨n, e1, _⟩ := DataW.trod_bool Try.underlying4 h
  exact ⟨n, e1⟩
end
end Go.Proofs.Ytlhnjaeocoafnaa
namespace Go.Proofs.Ytlhnjaeocoafnaa
open Go.RowKit
set_option maxRecDepth 100000

theorem rc_len (r : Rt) : (rc r).toList.length = 32 := by rw [Array.length_toList, rc_size]
theorem eqRtN (n : Nat) (a b : Rt) (w : World) : (Op.equalIn (n + 2) 30 (.agg (rc a)) (.agg (rc b))).run Try.prog w = .ok (decide (a = b)) w := eqRootN n a b w
theorem partR (c : Array Value) (o : Nat) (r : Rt) (h : c.extract o (o + 32) = rc r) (w : World) : (part 30 c o).run Try.prog w = .ok (.agg (rc r)) w := by
  rw [part_agg (P := Try.prog) Try.isAgg30 Try.sizeOf30, h]
theorem cellsOf_root : Try.prog.cellsOf 30 = 32 := by kernel_rfl
def Ert : Lie Rt := ⟨30, 32, fun r => (rc r).toList, by decide, rc_len, rc_ones⟩
end Go.Proofs.Ytlhnjaeocoafnaa
