import Derived.Test.YtkalofboioffiaaGreatQ03
import Derived.Laws.StructEq
import Derived.Laws.Small
import Derived.Test.YtkalofboioffiaaGreatRows
import Derived.ChangeMaps5
import Derived.Sort.Grow
import Derived.ChangeKeysEq
import Derived.WideKeyArr2
namespace Go.Proofs.YtkalofboioffiaaGreat
open Go.RowKit
set_option maxRecDepth 200000
set_option maxHeartbeats 64000000
section
open Go.RowKit
def za2 (c : Array Value) (o : Nat) (r : Array Value) : Array Value := (c.toList.take o ++ (r.toList ++ c.toList.drop (o + r.size))).toArray
theorem za3 {c : Array Value} {x y z : List Value} {o : Nat} {r : Array Value} (hc : c.toList = x ++ (y ++ z)) (hx : x.length = o) (hy : y.length = r.size) : za2 c o r = (x ++ (r.toList ++ z)).toArray := by
 unfold za2
 rw [hc, List.take_left' hx, ← List.drop_drop, List.drop_left' hx, List.drop_left' hy]
theorem zq8 {c : Array Value} {o : Nat} {r : Array Value} (h : o + r.size ≤ c.size) : (za2 c o r).size = c.size := by
 unfold za2
 simp
 omega
theorem zfl {c : Array Value} {o : Nat} {r : Array Value} (h : o + r.size ≤ c.size) (j : Nat) : (za2 c o r)[j]? = if o ≤ j ∧ j < o + r.size then r[j - o]? else c[j]? := by
 unfold za2
 rw [List.getElem?_toArray]
 by_cases h1 : j < o
 ·
  rw [if_neg (by omega), List.getElem?_append_left (by rw [List.length_take, Array.length_toList]; omega), List.getElem?_take, if_pos h1]
  simp
 ·
  have hl : (c.toList.take o).length = o := by rw [List.length_take, Array.length_toList]; omega
  rw [List.getElem?_append_right (by omega), hl]
  by_cases h2 : j < o + r.size
  ·
   rw [if_pos (by omega), List.getElem?_append_left (by rw [Array.length_toList]; omega)]
   simp
  ·
   rw [if_neg (by omega), List.getElem?_append_right (by rw [Array.length_toList]; omega), List.getElem?_drop, Array.length_toList]
   rw [show o + r.size + (j - o - r.size) = j by omega]
   simp
theorem zy2 {c y r : Array Value} {x z : List Value} {o0 o : Nat} (hc : c.toList = x ++ (y.toList ++ z)) (hx : x.length = o0) (h : o + r.size ≤ y.size) : za2 c (o0 + o) r = za2 c o0 (za2 y o r) := by
 have hs : c.size = x.length + (y.size + z.length) := by rw [← Array.length_toList, hc]; simp
 apply Array.ext_getElem?
 intro j
 have hp := zq8 (c := y) (o := o) (r := r) h
 rw [zfl (by omega), zfl (by omega), hp]
 by_cases h1 : o0 ≤ j ∧ j < o0 + y.size
 ·
  rw [if_pos h1, zfl h]
  by_cases h2 : o ≤ j - o0 ∧ j - o0 < o + r.size
  ·
   rw [if_pos h2, if_pos (by omega), show j - (o0 + o) = j - o0 - o by omega]
  ·
   have e : c[j]? = y[j - o0]? := by
    rw [← Array.getElem?_toList, hc, List.getElem?_append_right (by omega), hx, List.getElem?_append_left (by simp; omega), Array.getElem?_toList]
   rw [if_neg h2, if_neg (by omega), e]
 ·
  rw [if_neg h1, if_neg (by omega)]
theorem zxn : ∀ (vs : List Value) (k o : Nat) (c : Array Value) (j : Nat), (((vs.zipIdx k).foldl (fun c (p : Value × Nat) => c.setIfInBounds (o + p.2) p.1) c) : Array Value)[j]? = if o + k ≤ j ∧ j < o + k + vs.length ∧ j < c.size then vs[j - (o + k)]? else c[j]?
 | [], k, o, c, j => by
  simp
  intros; omega
 | v :: r, k, o, c, j => by
  rw [List.zipIdx_cons, List.foldl_cons, zxn r (k + 1) o _ j]
  simp only [Array.size_setIfInBounds, Array.getElem?_setIfInBounds, List.length_cons]
  by_cases h1 : o + (k + 1) ≤ j ∧ j < o + (k + 1) + r.length ∧ j < c.size
  ·
   rw [if_pos h1, if_pos (by omega), show j - (o + k) = (j - (o + (k + 1))) + 1 by omega]
   simp
  ·
   rw [if_neg h1]
   by_cases h2 : o + k = j
   ·
    subst h2
    by_cases h3 : o + k < c.size
    ·
     rw [if_pos rfl, if_pos h3, if_pos (by omega)]; simp
    ·
     rw [if_pos rfl, if_neg h3, if_neg (by omega), Array.getElem?_eq_none (by omega)]
   ·
    rw [if_neg h2, if_neg (by omega)]
theorem ygb (c : Array Value) (o : Nat) (r : Array Value) (h : o + r.size ≤ c.size) : (r.zipIdx.foldl (fun cs (p : Value × Nat) => cs.setIfInBounds (o + p.2) p.1) c) = za2 c o r := by
 have e : (r.zipIdx.foldl (fun cs (p : Value × Nat) => cs.setIfInBounds (o + p.2) p.1) c) = ((r.toList.zipIdx 0).foldl (fun c (p : Value × Nat) => c.setIfInBounds (o + p.2) p.1) c) := by
  rw [← Array.foldl_toList, Array.toList_zipIdx]
 rw [e]
 apply Array.ext_getElem?
 intro j
 rw [zxn, zfl h]
 by_cases hj : o ≤ j ∧ j < o + r.size
 ·
  rw [if_pos (by simp; omega), if_pos hj]; simp
 ·
  rw [if_neg (by simp; omega), if_neg hj]
theorem zxl (place : Nat → Option (Nat × Nat)) (c : Array Value) (i : Nat) (v : Value) (rest : List (Nat × Value)) (off size : Nat) (hp : place i = some (off, size)) (hs : v.cells.size = size) (hf : off + size ≤ c.size) : Instr.fill place c ((i, v) :: rest) = Instr.fill place (za2 c off v.cells) rest := by
 rw [Instr.fill]
 simp only [hp]
 rw [if_neg (by simp; omega)]
 congr 1
 exact ygb c off v.cells (by omega)
section
variable {w : World} {g : Nat} {c : Array Value} {t : TypeId} {fr : Nat × Nat}
theorem yr5 {x z : List Value} {o : Nat} {v : Value} (hg : w.heap[g]? = some (.cells c t fr)) (hc : c.toList = x ++ (v :: z)) (hx : x.length = o) : w.cell? ⟨g, o, none⟩ = some v := by
 rw [cell_of_row _ _ o c t _ hg, ← Array.getElem?_toList, hc, List.getElem?_append_right (by omega), show o - x.length = 0 by omega]
 rfl
theorem yd6 {o n : Nat} (hg : w.heap[g]? = some (.cells c t (0, 0))) (h : o + n ≤ c.size) : wrA w (.pointer (some ⟨g, o, none⟩)) n = true := by
 rw [zd8]
 intro j hj
 rw [cell_of_row _ _ (o + j) c t _ hg, frozen_of_row _ _ (o + j) c t hg]
 exact ⟨by rw [Array.getElem?_eq_getElem (by omega)]; rfl, rfl⟩
theorem za4 (hg : w.heap[g]? = some (.cells c t (0, 0))) (o : Nat) (v : Value) : (w.setCell ⟨g, o, none⟩ v).heap[g]? = some (.cells (c.setIfInBounds o v) t (0, 0)) := by
 rw [setCell_eq_setRow w g o c t (0, 0) v hg]
 exact setRow_heap w g c _ t _ hg
theorem zgd : ∀ (vs : List Value) (o : Nat) (w : World) (c : Array Value), w.heap[g]? = some (.cells c t (0, 0)) → (w.setCells g o vs).heap[g]? = some (.cells ((vs.zipIdx o).foldl (fun c p => c.setIfInBounds p.2 p.1) c) t (0, 0))
 | [], _, _, _, hg => hg
 | v :: r, o, w, c, hg => by
  rw [World.setCells, zgd r (o + 1) _ _ (za4 hg o v)]
  rfl
theorem zbx {o : Nat} {r : Array Value} (hg : w.heap[g]? = some (.cells c t (0, 0))) (h : o + r.size ≤ c.size) : (stA w (.pointer (some ⟨g, o, none⟩)) (.agg r)).heap[g]? = some (.cells (za2 c o r) t (0, 0)) := by
 show (w.setCells g o r.toList).heap[g]? = _
 rw [zgd r.toList o w c hg]
 congr 2
 apply Array.ext_getElem?
 intro j
 rw [zih, zfl h]
 by_cases hj : o ≤ j ∧ j < o + r.size
 ·
  rw [if_pos (by simp; omega), if_pos hj]; simp
 ·
  rw [if_neg (by simp; omega), if_neg hj]
theorem zbg {o : Nat} {v : Value} (h : o < c.size) : c.setIfInBounds o v = za2 c o #[v] := by
 apply Array.ext_getElem?
 intro j
 rw [zfl (by simp; omega), Array.getElem?_setIfInBounds]
 by_cases hj : o = j
 ·
  subst hj; rw [if_pos rfl, if_pos h, if_pos (by simp)]; simp
 ·
  rw [if_neg hj, if_neg (by simp; omega)]
end
section
variable {P : Program}
theorem z35 {T : TypeId} {n : Nat} (hA : ∀ w, (isAgg T).run P w = .ok true w) (hS : ∀ w, (Go.sizeOf T).run P w = .ok n w) (c : Array Value) (o : Nat) (w : World) : (part T c o).run P w = .ok (.agg (c.extract o (o + n))) w := by
 unfold part
 simp [hA, hS]
theorem zot {T : TypeId} (hA : ∀ w, (isAgg T).run P w = .ok false w) (c : Array Value) (o : Nat) (v : Value) (h : c[o]? = some v) (w : World) : (part T c o).run P w = .ok v w := by
 unfold part
 simp [hA, h]
theorem zdt {c r : Array Value} {x z : List Value} {o n : Nat} (hc : c.toList = x ++ (r.toList ++ z)) (hx : x.length = o) (hr : r.size = n) : c.extract o (o + n) = r := by
 apply Array.toList_inj.1
 rw [Array.toList_extract, hc]
 show ((x ++ (r.toList ++ z)).drop o).take (o + n - o) = r.toList
 rw [List.drop_left' hx, List.take_left' (by rw [Array.length_toList, hr]; omega)]
end
theorem zij {c : Array Value} {x z : List Value} {o : Nat} {v : Value} (hc : c.toList = x ++ (v :: z)) (hx : x.length = o) : c[o]? = some v := by
 rw [← Array.getElem?_toList, hc, List.getElem?_append_right (by omega), show o - x.length = 0 by omega]
 rfl
def ylv (f : Field) : String × TypeId × Nat := (f.name, f.type, f.offset)
theorem zut {P : Program} {d : Nat} {xs ys : Array Value} {w : World} {fs : List Field} (hm : fs.map ylv = []) : (Op.eqFields d xs ys fs).run P w = .ok true w := by
 rw [List.map_eq_nil_iff.1 hm]
 rfl
theorem zde {P : Program} {d : Nat} {xs ys : Array Value} {n : String} {T : TypeId} {o : Nat} {rest : List (String × TypeId × Nat)} {a b : Value} {r R : Bool} {w : World} {fs : List Field} (hm : fs.map ylv = (n, T, o) :: rest) (hn : n ≠ "_") (ha : (part T xs o).run P w = .ok a w) (hb : (part T ys o).run P w = .ok b w) (he : (Op.equalIn d T a b).run P w = .ok r w)
  (hr : ∀ gs : List Field, gs.map ylv = rest → (Op.eqFields d xs ys gs).run P w = .ok R w) : (Op.eqFields d xs ys fs).run P w = .ok (r && R) w := by
 obtain ⟨f, gs, rfl, hf, hg⟩ := List.map_eq_cons_iff.1 hm
 injection hf with h1 h2
 injection h2 with h2 h3
 subst h1 h2 h3
 have hR := hr gs hg
 simp only [Op.eqFields, if_pos hn, Sem.run_bind, ha, hb, he, Result.andThen_ok]
 cases r
 ·
  simp
 ·
  simpa using hR
def zh2 (pl : List (Nat × Nat)) (c : Array Value) : List (Nat × Value) → Option (Array Value)
 | [] => some c
 | (i, v) :: rest =>
  match pl[i]? with
  | some (off, size) => if v.cells.size = size ∧ off + size ≤ c.size then zh2 pl (za2 c off v.cells) rest else none
  | none => none
theorem zs3 (pl : List (Nat × Nat)) : ∀ (ps : List (Nat × Value)) (c r : Array Value), zh2 pl c ps = some r → Instr.fill (fun i => pl.toArray[i]?) c ps = some r
 | [], c, r, h => h
 | (i, v) :: rest, c, r, h => by
  unfold zh2 at h
  cases hp : pl[i]? with
  | none => rw [hp] at h; cases h
  | some os =>
   obtain ⟨off, size⟩ := os
   rw [hp] at h
   dsimp only at h
   split at h
   ·
    rename_i hs
    rw [zxl (fun i => pl.toArray[i]?) c i v rest off size (by simpa using hp) hs.1 hs.2]
    exact zs3 pl rest _ r h
   ·
    cases h
section
variable {P : Program}
theorem zn9 {T : TypeId} {fs : Array Field} {pl : List (Nat × Nat)} {z : Array Value} (hz : ∀ w, (zeroValue T).run P w = .ok (.agg z) w) (hu : P.underlying T = some (.struct fs)) (hp : ∀ w, (fs.mapM (m := Sem) fun f => do pure (f.offset, ← Go.sizeOf f.type)).run P w = .ok pl.toArray w) (parts : Array (Nat × Value)) (w : World) (r : Array Value) (h : zh2 pl z parts.toList = some r) :
  (Instr.build T parts).run P w = .ok (.agg r) w := by
 have hf := zs3 pl parts.toList z r h
 simp only [Instr.build, Sem.run_bind, hz, Result.andThen_ok, run_underlying hu, hp, Value.cells, hf]
 rfl
theorem zcg {T : TypeId} {fs : Array Field} {pl : List (Nat × Nat)} {z : Array Value} (hz : ∀ w, (zeroValue T).run P w = .ok (.agg z) w) (hu : P.underlying T = some (.struct fs)) (hp : ∀ w, (fs.mapM (m := Sem) fun f => do pure (f.offset, ← Go.sizeOf f.type)).run P w = .ok pl.toArray w)
  (ρ : Operand → Value) (dst : Option Tmp) (ps : Array (Nat × Operand)) (ty : TypeId) (pos : String) (after : Array Edge) (guard : Option (Nat × Bool)) (w : World) :
  (execOp ρ { dst, op := .build T ps, type := ty, pos, after, guard }).run P w = zg7 ((zh2 pl z (ps.toList.map fun p => (p.1, ρ p.2))).map .agg) w (zbn P ρ { dst, op := .build T ps, type := ty, pos, after, guard } w) := by
 cases h : zh2 pl z (ps.toList.map fun p => (p.1, ρ p.2)) with
 | none => rfl
 | some r =>
  unfold execOp
  simp only [Sem.run_bind]
  rw [zn9 hz hu hp _ w r (by simpa using h)]
  rfl
end
attribute [go_sem] zh2
theorem zea {l : List Value} (h : ∀ v ∈ l, v.oneCell' = true) : l.toArray.all (·.oneCell') = true := by
 rw [Array.all_eq_true_iff_forall_mem]
 intro v hv
 exact h v (by simpa using hv)
section
open Go.WideShapes Go.ChangeShapes
variable {H : Type} {enc : TypeId × Value → H} {P : Program} {w : World} {base : Nat} {sp : Nat → Bool} {held : Bool}
theorem zas {T : TypeId} {fs : Array Field} {fl : List (String × TypeId × Nat)} {i : Nat} {n : String} {t : TypeId} {o fuel : Nat} {cs : List Value} {x : DataW H × List MemPlace} (hu : P.underlying T = some (.struct fs)) (hf : fs.toList.map (fun f => (f.name, f.type, f.offset)) = fl) (hi : fl[i]? = some (n, t, o)) (h : DataW.trod enc P w base sp held fuel T cs = some x) :
  ∃ m y, DataW.trod enc P w base sp held m t ((cs.drop o).take (P.cellsOf t)) = some y := by
 obtain ⟨xs, m, _, _, _, hlen, hx⟩ := DataW.trod_struct hu h
 rw [← hf, List.getElem?_map, Option.map_eq_some_iff] at hi
 obtain ⟨f, hfi, e⟩ := hi
 injection e with _ e
 injection e with e1 e2
 have hfa : fs[i]? = some f := by simpa using hfi
 have hi' : i < fs.size := (Array.getElem?_eq_some_iff.1 hfa).1
 have := hx i f hfa
 rw [e1, e2, List.getElem?_eq_getElem (by omega)] at this
 exact ⟨m, _, this⟩
end
theorem za6 (l : List Value) (o n : Nat) : (l.drop o).take n ++ l.drop (o + n) = l.drop o := by
 rw [← List.drop_drop]; exact List.take_append_drop n _
theorem zai {w : World} {g : Nat} {c : Array Value} {t : TypeId} {fr : Nat × Nat} (hg : w.heap[g]? = some (.cells c t fr)) : w.rangeAt g 0 c.toList := fun j v hv => by
 rw [Nat.zero_add, cell_of_row _ _ j c t _ hg]
 simpa using hv
theorem zcz {w : World} {b off o : Nat} {cs x y z : List Value} (h : w.rangeAt b off cs) (hc : cs = x ++ (y ++ z)) (hx : x.length = o) : w.rangeAt b (off + o) y := fun j v hv => by
 rw [Nat.add_assoc]
 refine h _ v ?_
 have hj : j < y.length := (List.getElem?_eq_some_iff.1 hv).1
 rw [hc, List.getElem?_append_right (by omega), show o + j - x.length = j by omega, List.getElem?_append_left hj]
 exact hv
theorem zbj {w : World} {b off o : Nat} {cs x z : List Value} {v : Value} (h : w.rangeAt b off cs) (hc : cs = x ++ (v :: z)) (hx : x.length = o) : w.cell? ⟨b, off + o, none⟩ = some v := by
 have := zcz h (show cs = x ++ ([v] ++ z) from hc) hx 0 v rfl
 simpa using this
theorem zca {w : World} {b off o n : Nat} {cs x z : List Value} {r : Array Value} (h : w.rangeAt b off cs) (hc : cs = x ++ (r.toList ++ z)) (hx : x.length = o) (hr : r.size = n) : ldA w (.pointer (some ⟨b, off + o, none⟩)) n = some r :=
 zxy hr (zcz h hc hx)
end
section
open Go.RowKit
def num (n : UInt64) : Value := .int .u64 (n.toNat : Int)
attribute [go_sem] num
theorem ytg {a b : UInt64} (h : num a = num b) : a = b := by
 simp only [num, Value.int.injEq, true_and] at h
 exact UInt64.toNat_inj.1 (by omega)
theorem ym6 (a b : UInt64) : ((a.toNat : Int) == (b.toNat : Int)) = decide (a = b) := by
 rw [Bool.eq_iff_iff, decide_eq_true_iff, beq_iff_eq]
 constructor
 ·
  intro h; exact UInt64.toNat_inj.1 (by omega)
 ·
  intro h; rw [h]
theorem yf5 (n : Nat) (a b : UInt64) (w : World) : (Op.equalIn (n + 1) 27 (num a) (num b)).run Tryz.prog w = .ok (decide (a = b)) w := by
 unfold num
 rw [run_equalIn_int w n 27 .u64 .u64 _ _ Tryz.underlying27, ym6]
theorem ysu (n : Nat) (a b : Int) (w : World) : (Op.equalIn (n + 1) 3 (.int .i64 a) (.int .i64 b)).run Tryz.prog w = .ok (decide (a = b)) w := by
 rw [run_equalIn_int w n 3 .i64 .i64 _ _ Tryz.underlying3]
 rfl
theorem ypt (n : Nat) (a b : Bool) (w : World) : (Op.equalIn (n + 1) 4 (.bool a) (.bool b)).run Tryz.prog w = .ok (decide (a = b)) w := by
 rw [run_equalIn_bool w n 4 _ _ Tryz.underlying4]
 cases a <;> cases b <;> rfl
theorem zyq (c : Array Value) (o : Nat) (n : UInt64) (h : c[o]? = some (num n)) (w : World) : (part 27 c o).run Tryz.prog w = .ok (num n) w := zot (P := Tryz.prog) Tryz.isAgg27 c o _ h w
theorem yne (c : Array Value) (o : Nat) (n : Int) (h : c[o]? = some (.int .i64 n)) (w : World) : (part 3 c o).run Tryz.prog w = .ok (.int .i64 n) w := zot (P := Tryz.prog) Tryz.isAgg3 c o _ h w
theorem yhg (c : Array Value) (o : Nat) (n : Bool) (h : c[o]? = some (.bool n)) (w : World) : (part 4 c o).run Tryz.prog w = .ok (.bool n) w := zot (P := Tryz.prog) Tryz.isAgg4 c o _ h w
theorem zce : Tryz.prog.cellsOf 27 = 1 := by kernel_rfl
theorem zhb : Tryz.prog.cellsOf 3 = 1 := by kernel_rfl
theorem zz9 : Tryz.prog.cellsOf 4 = 1 := by kernel_rfl
def Eint : Lie Int := ⟨3, 1, fun n => [.int .i64 n], by decide, fun _ => rfl, fun _ u h => by rw [List.mem_singleton.1 h]; rfl⟩
def Enum : Lie UInt64 := ⟨27, 1, fun n => [num n], by decide, fun _ => rfl, fun _ u h => by rw [List.mem_singleton.1 h]; rfl⟩
section
open Go.WideShapes Go.ChangeShapes
variable {H : Type} {enc : TypeId × Value → H} {w : World} {base : Nat} {sp : Nat → Bool} {held : Bool}
theorem zc3 {fuel : Nat} {cs : List Value} {x : DataW H × List MemPlace} (h : DataW.trod enc Tryz.prog w base sp held fuel 27 cs = some x) : ∃ n : UInt64, cs = [num n] := by
 obtain ⟨n, e1, _, e3⟩ := DataW.trod_int Tryz.underlying27 h
 have hb : (decide (IntKind.u64.min ≤ n) && decide (n ≤ IntKind.u64.max)) = true := e3
 rw [Bool.and_eq_true, decide_eq_true_eq, decide_eq_true_eq, show IntKind.u64.min = 0 from rfl, show IntKind.u64.max = 18446744073709551615 from rfl] at hb
 refine ⟨UInt64.ofNat n.toNat, ?_⟩
 rw [e1, num, UInt64.toNat_ofNat', Nat.mod_eq_of_lt (by simp; omega)]
 congr 2
 omega
theorem zkv {fuel : Nat} {cs : List Value} {x : DataW H × List MemPlace} (h : DataW.trod enc Tryz.prog w base sp held fuel 3 cs = some x) : ∃ n : Int, cs = [.int .i64 n] := by
 obtain ⟨n, e1, _, _⟩ := DataW.trod_int Tryz.underlying3 h
 exact ⟨n, e1⟩
theorem z88 {fuel : Nat} {cs : List Value} {x : DataW H × List MemPlace} (h : DataW.trod enc Tryz.prog w base sp held fuel 4 cs = some x) : ∃ n : Bool, cs = [.bool n] := by
 obtain ⟨n, e1, _⟩ := DataW.trod_bool Tryz.underlying4 h
 exact ⟨n, e1⟩
end
end
abbrev Rt := Vector UInt8 32
def rc (r : Rt) : Array Value := r.toArray.map fun b => .int .u8 (b.toNat : Int)
def at8 (r : Rt) (k : Nat) : Int := ((r.toList.getD k 0).toNat : Int)
theorem zav (r : Rt) : (rc r).size = 32 := by simp [rc]
theorem yct (r : Rt) (k : Nat) (h : k < 32) : (rc r)[k]? = some (.int .u8 (at8 r k)) := by
 simp [rc, at8, h]
@[go_sem] theorem zm5 (r : Rt) (k : Nat) (h : k < (rc r).size) : (rc r)[k] = .int .u8 (at8 r k) := by
 have h' : k < 32 := by rw [zav] at h; exact h
 have := yct r k h'
 rw [Array.getElem?_eq_getElem h] at this
 exact Option.some.inj this
theorem yo4 (r : Rt) (k : Nat) : 0 ≤ at8 r k ∧ at8 r k < 256 := by
 unfold at8
 have := (r.toList.getD k 0).toNat_lt
 omega
theorem yj6 {a b : Rt} (h : rc a = rc b) : a = b := by
 unfold rc at h
 have hi : Function.Injective (fun b : UInt8 => Value.int .u8 (b.toNat : Int)) := by
  intro x y hxy
  simp only [Value.int.injEq, true_and] at hxy
  exact UInt8.toNat_inj.1 (by omega)
 have := (Array.map_inj_right (f := fun b : UInt8 => Value.int .u8 (b.toNat : Int)) (fun x y h => hi h)).1 h
 exact Vector.toArray_inj.1 this
theorem yj7 (r : Rt) : (rc r).all (·.oneCell') = true := by
 rw [Array.all_eq_true_iff_forall_mem]
 intro v hv
 obtain ⟨b, _, rfl⟩ := Array.mem_map.1 hv
 rfl
def zio : List UInt8 → List UInt8 → Bool
 | x :: xs, y :: ys => if x = y then zio xs ys else decide (x < y)
 | _, _ => false
def zbz (a b : Rt) : Bool := zio a.toList b.toList
theorem znr : ∀ l, zio l l = false
 | [] => rfl
 | x :: xs => by simp [zio, znr xs]
theorem zqe : ∀ a b c, zio a b = true → zio b c = true → zio a c = true
 | [], _, _, h, _ => by simp [zio] at h
 | _ :: _, [], _, h, _ => by simp [zio] at h
 | _ :: _, _ :: _, [], _, h => by simp [zio] at h
 | x :: xs, y :: ys, z :: zs, h, k => by
  unfold zio at h k ⊢
  by_cases e : x = y
  ·
   subst e
   by_cases f : x = z
   ·
    subst f; simp at h k ⊢; exact zqe xs ys zs h k
   ·
    rw [if_neg f] at k ⊢; exact k
  ·
   rw [if_neg e] at h
   by_cases f : y = z
   ·
    subst f; rw [if_neg e]; exact h
   ·
    rw [if_neg f] at k
    have h' : x < y := by simpa using h
    have k' : y < z := by simpa using k
    have hk := UInt8.lt_trans h' k'
    rw [if_neg (fun g => by subst g; exact absurd hk (UInt8.lt_irrefl _))]
    simpa using hk
theorem zx3 : ∀ a b, a.length = b.length → zio a b = false → zio b a = false → a = b
 | [], [], _, _, _ => rfl
 | [], _ :: _, h, _, _ => by simp at h
 | _ :: _, [], h, _, _ => by simp at h
 | x :: xs, y :: ys, hl, h, k => by
  unfold zio at h k
  by_cases e : x = y
  ·
   subst e; simp at h k; rw [zx3 xs ys (by simpa using hl) h k]
  ·
   rw [if_neg e] at h; rw [if_neg (Ne.symm e)] at k
   simp at h k
   exact absurd (UInt8.le_antisymm k h) e
theorem zx4 (a : Rt) : zbz a a = false := znr _
theorem z0z {a b c : Rt} (h : zbz a b = true) (k : zbz b c = true) : zbz a c = true := zqe _ _ _ h k
theorem ya8 {a b : Rt} (h : zbz a b = false) (k : zbz b a = false) : a = b := by
 have := zx3 a.toList b.toList (by simp) h k
 exact Vector.toList_inj.1 this
theorem zkd (l : List UInt8) {k : Nat} (h : k < l.length) : l.getD k 0 = l[k] := by simp [h]
def zgf (a b : Rt) (k : Nat) : Bool := zio (a.toList.drop k) (b.toList.drop k)
theorem zx2 (a b : Rt) : zgf a b 32 = false := by
 unfold zgf
 rw [List.drop_of_length_le (by simp)]
 rfl
theorem zvc (a b : Rt) (k : Nat) (hk : k < 32) (h : at8 a k = at8 b k) : zgf a b k = zgf a b (k + 1) := by
 unfold zgf
 have ha : k < a.toList.length := by simp; omega
 have hb : k < b.toList.length := by simp; omega
 have e : a.toList[k] = b.toList[k] := by
  have h' : (a.toList.getD k 0).toNat = (b.toList.getD k 0).toNat := by unfold at8 at h; omega
  rw [zkd _ ha, zkd _ hb] at h'
  exact UInt8.toNat_inj.1 h'
 rw [List.drop_eq_getElem_cons ha, List.drop_eq_getElem_cons hb, zio, if_pos e]
theorem zr5 (a b : Rt) (k : Nat) (hk : k < 32) (h : at8 a k ≠ at8 b k) : zgf a b k = decide (at8 a k < at8 b k) := by
 unfold zgf
 have ha : k < a.toList.length := by simp; omega
 have hb : k < b.toList.length := by simp; omega
 unfold at8 at h ⊢
 rw [zkd _ ha, zkd _ hb] at h ⊢
 rw [List.drop_eq_getElem_cons ha, List.drop_eq_getElem_cons hb, zio, if_neg (fun g => h (by rw [g]))]
 rw [decide_eq_decide, UInt8.lt_iff_toNat_lt]
 omega
section
open Go.WideShapes Go.ChangeShapes
open Go.RowKit Go.WideShapes Go.ChangeShapes
def eqB (a b : Rt) : Bool := decide (a = b)
theorem yks {a b : Rt} (h : ∀ i, i < 32 → at8 a i = at8 b i) : a = b := by
 apply Vector.toList_inj.1
 apply List.ext_getElem (by simp)
 intro i h1 h2
 have := h i (by simpa using h1)
 unfold at8 at this
 rw [zkd _ h1, zkd _ h2] at this
 exact UInt8.toNat_inj.1 (by omega)
theorem z93 (a b : Rt) : ((List.range 32).all fun i => at8 a i == at8 b i) = eqB a b := by
 unfold eqB
 rw [Bool.eq_iff_iff, List.all_eq_true, decide_eq_true_iff]
 constructor
 ·
  intro h
  exact yks fun i hi => by simpa using h i (List.mem_range.2 hi)
 ·
  rintro rfl i _
  simp
theorem ycf (a : Rt) (i : Nat) (hi : i < 32) (w : World) : (part 5 (rc a) i).run Tryz.prog w = .ok (.int .u8 (at8 a i)) w := by
 have h := yct a i hi
 have a5 := Tryz.isAgg5
 unfold part
 go_simp
theorem zs1 (n : Nat) (a b : Rt) (w : World) : ∀ is : List Nat, (∀ i ∈ is, i < 32) →
  (Op.eqItems (n + 1) 5 1 (rc a) (rc b) is).run Tryz.prog w = .ok (is.all fun i => at8 a i == at8 b i) w
 | [], _ => by simp [Op.eqItems]
 | i :: is, h => by
  have hi := h i (by simp)
  have ih := zs1 n a b w is (fun j hj => h j (by simp [hj]))
  have u5 := Tryz.underlying5
  have e1 : (Op.equalIn (n + 1) 5 (.int .u8 (at8 a i)) (.int .u8 (at8 b i))).run Tryz.prog w = .ok (at8 a i == at8 b i) w := by
   rw [Op.equalIn]
   go_simp
  simp only [Op.eqItems, Nat.mul_one, Sem.run_bind, ycf a i hi, ycf b i hi, Result.andThen_ok, e1]
  by_cases e : at8 a i = at8 b i
  ·
   simp [e, ih]
  ·
   simp [e]
theorem z94 (n : Nat) (a b : Rt) (w : World) : (Op.equalIn (n + 2) 34 (.agg (rc a)) (.agg (rc b))).run Tryz.prog w = .ok (eqB a b) w := by
 obtain ⟨i, hi⟩ : ∃ i, Tryz.prog.info? 5 = some i := Option.isSome_iff_exists.1 (by kernel_rfl)
 rw [run_equalIn_array w (n + 1) (rc a) (rc b) Tryz.underlying34 hi]
 rw [show Tryz.prog.cellsOf 5 = 1 by kernel_rfl, zs1 n a b w _ (fun i h => List.mem_range.1 h), z93]
@[go_sem] theorem ytq (a b : Rt) (w : World) : (Op.equalIn 10000 34 (.agg (rc a)) (.agg (rc b))).run Tryz.prog w = .ok (eqB a b) w := z94 9998 a b w
theorem zk7 (a : Rt) : eqB a a = true := by simp [eqB]
theorem zie (a b : Rt) : eqB a b = true ↔ a = b := by simp [eqB]
attribute [go_sem] zav
@[go_sem] theorem yt1 (r : Rt) : okA 32 (.agg (rc r)) = true := by
 show ((rc r).size == 32 && (rc r).all (·.oneCell')) = true
 rw [yj7, zav]; rfl
@[go_sem ↓] theorem yp7 (ρ : Operand → Value) (dst : Option Tmp) (x : Operand) (ty : TypeId) (pos : String) (after : Array Edge) (guard : Option (Nat × Bool)) (w : World) :
  (execOp ρ { dst, op := .load 34 x, type := ty, pos, after, guard }).run Tryz.prog w = zkh (ldA w (ρ x) 32) w (zbn Tryz.prog ρ { dst, op := .load 34 x, type := ty, pos, after, guard } w) :=
 zb2 Tryz.isAgg34 Tryz.sizeOf34 ρ dst x ty pos after guard w
@[go_sem ↓] theorem yoo (ρ : Operand → Value) (dst : Option Tmp) (x y : Operand) (ty : TypeId) (pos : String) (after : Array Edge) (guard : Option (Nat × Bool)) (w : World) :
  (execOp ρ { dst, op := .store 34 x y, type := ty, pos, after, guard }).run Tryz.prog w = zjo (wrA w (ρ x) 32 && okA 32 (ρ y)) (stA w (ρ x) (ρ y)) (zbn Tryz.prog ρ { dst, op := .store 34 x y, type := ty, pos, after, guard } w) :=
 zbm Tryz.sizeOf34 ρ dst x y ty pos after guard w
def zr : Rt := Vector.replicate 32 0
theorem ytj : rc zr = #[.int .u8 0, .int .u8 0, .int .u8 0, .int .u8 0, .int .u8 0, .int .u8 0, .int .u8 0, .int .u8 0, .int .u8 0, .int .u8 0, .int .u8 0, .int .u8 0, .int .u8 0, .int .u8 0, .int .u8 0, .int .u8 0, .int .u8 0, .int .u8 0, .int .u8 0, .int .u8 0, .int .u8 0, .int .u8 0, .int .u8 0, .int .u8 0, .int .u8 0, .int .u8 0, .int .u8 0, .int .u8 0, .int .u8 0, .int .u8 0, .int .u8 0, .int .u8 0] := by kernel_rfl
theorem zi3 (w : World) : (zeroValue 34).run Tryz.prog w = .ok (.agg (rc zr)) w := by
 rw [ytj]; exact Tryz.zeroValue34 w
@[go_sem ↓] theorem yoi (ρ : Operand → Value) (dst : Option Tmp) (ty : TypeId) (pos : String) (after : Array Edge) (guard : Option (Nat × Bool)) (w : World) :
  (execOp ρ { dst, op := .alloc 34, type := ty, pos, after, guard }).run Tryz.prog w = .ok (.value (.pointer (some ⟨w.heap.size, 0, none⟩))) (w.alloc (.cells (rc zr) 34)) := by
 unfold execOp
 simp only [Instr.alloc, Sem.run_bind, zi3, Result.andThen_ok]
 rfl
@[go_sem ↓] theorem yoj (ρ : Operand → Value) (dst : Option Tmp) (ty : TypeId) (pos : String) (after : Array Edge) (guard : Option (Nat × Bool)) (w : World) :
  (execOp ρ { dst, op := .build 34 #[], type := ty, pos, after, guard }).run Tryz.prog w = .ok (.value (.agg (rc zr))) w := by
 unfold execOp
 simp only [Instr.build, Sem.run_bind, zi3, Result.andThen_ok, run_underlying Tryz.underlying34, Tryz.sizeOf5]
 simp [Instr.fill, Value.cells]
def zf8 : Value → Array Value
 | .agg c => c
 | _ => #[]
attribute [go_sem] zf8
theorem zii (z c : Array Value) (h : c.size = z.size) : Array.foldl (fun cs (p : Value × Nat) => cs.setIfInBounds p.2 p.1) z c.zipIdx 0 c.size = c := by
 have e : Array.foldl (fun cs (p : Value × Nat) => cs.setIfInBounds p.2 p.1) z c.zipIdx 0 c.size = ((c.toList.zipIdx 0).foldl (fun c p => c.setIfInBounds p.2 p.1) z) := by
  have h2 : c.size = c.zipIdx.size := by simp
  rw [h2, ← Array.foldl_toList, Array.toList_zipIdx]
 rw [e]
 apply Array.ext_getElem?
 intro j
 rw [zih]
 by_cases hj : j < c.size
 ·
  rw [if_pos (by simp; omega)]; simp
 ·
  rw [if_neg (by simp; omega), Array.getElem?_eq_none (by omega), Array.getElem?_eq_none (by omega)]
theorem arr_root : WideMaps.ArrKey Tryz.prog 34 5 32 := ⟨Tryz.underlying34, by kernel_rfl, by kernel_rfl, by kernel_rfl⟩
theorem zis (r : Rt) : ∀ u ∈ (rc r).toList, u.oneCell' = true := fun u h => (Array.all_eq_true_iff_forall_mem.1 (yj7 r)) u (by simpa using h)
section
variable {H : Type} {enc : TypeId × Value → H} {P : Program}
end
section
variable {H : Type} {enc : TypeId × Value → H} {w : World} {base : Nat} {sp : Nat → Bool} {held : Bool}
theorem zc6 {fuel : Nat} {cs : List Value} {x : DataW H × List MemPlace} (h : DataW.trod enc Tryz.prog w base sp held fuel 34 cs = some x) : ∃ r : Rt, cs = (rc r).toList := by
 obtain ⟨xs, m, _, _, hl, hxl, hx⟩ := DataW.trod_array Tryz.underlying34 h
 rw [arr_root.size] at hl
 rw [arr_root.one] at hx
 have hc : ∀ i, i < 32 → ∃ n : Int, cs[i]? = some (.int .u8 n) ∧ 0 ≤ n ∧ n < 256 := fun i hi => by
  have h1 := hx i hi
  rw [List.getElem?_eq_getElem (by omega)] at h1
  obtain ⟨n, e1, _, e3⟩ := DataW.trod_int Tryz.underlying5 h1
  rw [Nat.mul_one, List.drop_eq_getElem_cons (by omega)] at e1
  have e4 : cs[i]'(by omega) = .int .u8 n := by
   rw [List.take_succ_cons, List.take_zero] at e1
   exact (List.cons.inj e1).1
  have hb : (decide (IntKind.u8.min ≤ n) && decide (n ≤ IntKind.u8.max)) = true := e3
  rw [Bool.and_eq_true, decide_eq_true_eq, decide_eq_true_eq, show IntKind.u8.min = 0 from rfl, show IntKind.u8.max = 255 from rfl] at hb
  exact ⟨n, by rw [List.getElem?_eq_getElem (by omega), e4], by omega, by omega⟩
 obtain ⟨f, hf⟩ := Deep.choose_lt hc
 refine ⟨Vector.ofFn fun i : Fin 32 => UInt8.ofNat (f i.val).toNat, ?_⟩
 apply List.ext_getElem?
 intro i
 by_cases hi : i < 32
 ·
  obtain ⟨h1, h2, h3⟩ := hf i hi
  rw [h1, Array.getElem?_toList, yct _ i hi]
  unfold at8
  rw [zkd _ (by simp; exact hi)]
  simp
  omega
 ·
  rw [List.getElem?_eq_none (by omega), List.getElem?_eq_none (by simp [zav]; omega)]
theorem open_root {r : Reach} {b0 : Nat} {v : Value} {d : DataW H} {ps : List MemPlace} (hval : Value.okWide Tryz.prog w r b0 34 v) (hd : DataW.Trod enc Tryz.prog w base sp held 34 v d ps) : ∃ r : Rt, v = .agg (rc r) := by
 obtain ⟨xs, rfl, _⟩ := WideMaps.okWide_arr arr_root hval
 obtain ⟨fuel, hf⟩ := hd
 obtain ⟨r, hr⟩ := zc6 hf
 refine ⟨r, ?_⟩
 have : xs = rc r := Array.toList_inj.1 hr
 rw [this]
end
end
theorem yqi (r : Rt) : (rc r).toList.length = 32 := by rw [Array.length_toList, zav]
theorem yf6 (n : Nat) (a b : Rt) (w : World) : (Op.equalIn (n + 2) 34 (.agg (rc a)) (.agg (rc b))).run Tryz.prog w = .ok (decide (a = b)) w := z94 n a b w
theorem zvu (c : Array Value) (o : Nat) (r : Rt) (h : c.extract o (o + 32) = rc r) (w : World) : (part 34 c o).run Tryz.prog w = .ok (.agg (rc r)) w := by
 rw [z35 (P := Tryz.prog) Tryz.isAgg34 Tryz.sizeOf34, h]
theorem zcp : Tryz.prog.cellsOf 34 = 32 := by kernel_rfl
def Ert : Lie Rt := ⟨34, 32, fun r => (rc r).toList, by decide, yqi, zis⟩
structure SlV where
 p : Option Addr
 len : Nat
 cap : Nat
def sv (s : SlV) : Value := .slice s.p s.len s.cap
@[go_sem] theorem za7 (p : Option Addr) (n c : Nat) : sv ⟨p, n, c⟩ = .slice p n c := rfl
end Go.Proofs.YtkalofboioffiaaGreat
