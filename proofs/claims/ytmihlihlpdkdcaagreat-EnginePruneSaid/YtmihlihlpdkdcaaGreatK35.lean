import Derived.Test.YtmihlihlpdkdcaaGreatK34
import Derived.Laws.StructEq
import Derived.Lib.EndianBits
namespace Go.Proofs.YtmihlihlpdkdcaaGreat
open Go.RowKit
set_option maxRecDepth 200000
set_option maxHeartbeats 64000000
section
open Go.RowKit
structure CkO where
 epoch : UInt64
 root : Rt
structure BlkO where
 root : Rt
 parent : Rt
 slot : UInt64
 just : UInt64
structure AtO where
 val : Int
 slot : UInt64
 head : Rt
 source : CkO
 target : CkO
def dgsO : Nat → Nat → List UInt8
 | 0, _ => []
 | k + 1, m => dgsO k (m / 256) ++ [UInt8.ofNat (m % 256)]
def zdr (l : List UInt8) : Nat := l.foldl (fun n d => 256 * n + d.toNat) 0
theorem zeb : ∀ k m, (dgsO k m).length = k
 | 0, _ => rfl
 | k + 1, m => by rw [dgsO, List.length_append, zeb k]; rfl
theorem zl1 (l : List UInt8) (d : UInt8) : zdr (l ++ [d]) = 256 * zdr l + d.toNat := by simp [zdr]
theorem z34 (l : List UInt8) (k : Nat) (hk : k < l.length) : zdr (l.take (k + 1)) = 256 * zdr (l.take k) + l[k].toNat := by
 rw [List.take_succ_eq_append_getElem hk, zl1]
theorem zs6 {p : List UInt8 → Prop} (h0 : p []) (h1 : ∀ l d, p l → p (l ++ [d])) : ∀ (n : Nat) (l : List UInt8), l.length = n → p l
 | 0, l, h => by rw [List.length_eq_zero_iff.1 h]; exact h0
 | n + 1, l, h => by
  have hne : l ≠ [] := fun e => by rw [e] at h; simp at h
  rw [← List.dropLast_concat_getLast hne]
  exact h1 _ _ (zs6 h0 h1 n _ (by rw [List.length_dropLast]; omega))
theorem zz7 (l : List UInt8) : zdr l < 256 ^ l.length := by
 refine zs6 (p := fun l => zdr l < 256 ^ l.length) (by simp [zdr]) (fun l d h => ?_) _ l rfl
 rw [zl1, List.length_append, List.length_singleton, Nat.pow_succ]
 have := d.toNat_lt
 omega
theorem yby (l : List UInt8) : dgsO l.length (zdr l) = l := by
 refine zs6 (p := fun l => dgsO l.length (zdr l) = l) rfl (fun l d h => ?_) _ l rfl
 have hd := d.toNat_lt
 rw [zl1, List.length_append, List.length_singleton, dgsO]
 have e1 : (256 * zdr l + d.toNat) / 256 = zdr l := by omega
 have e2 : (256 * zdr l + d.toNat) % 256 = d.toNat := by omega
 rw [e1, e2, h, UInt8.ofNat_toNat]
theorem z6j : ∀ (k m j : Nat), j < k → bt (dgsO k m) j = ((m / 256 ^ (k - 1 - j) % 256 : Nat) : Int)
 | 0, _, _, h => by omega
 | k + 1, m, j, h => by
  unfold bt
  rw [dgsO]
  by_cases e : j = k
  ·
   subst e
   have hl : j < (dgsO j (m / 256) ++ [UInt8.ofNat (m % 256)]).length := by rw [List.length_append, zeb]; simp
   rw [zdc _ hl, List.getElem_append_right (by rw [zeb]; omega)]
   simp [zeb]
  ·
   have hj : j < k := by omega
   have ih := z6j k (m / 256) j hj
   unfold bt at ih
   have hl : j < (dgsO k (m / 256)).length := by rw [zeb]; exact hj
   rw [zdc _ (by rw [List.length_append, zeb]; omega), List.getElem_append_left hl]
   rw [zdc _ hl] at ih
   rw [ih, Nat.div_div_eq_div_mul]
   rw [show k + 1 - 1 - j = (k - 1 - j) + 1 by omega, Nat.pow_succ, Nat.mul_comm]
def zga (n : UInt64) : List UInt8 := dgsO 8 n.toNat
def zd3 (l : List UInt8) : UInt64 := UInt64.ofNat (zdr (l.take 8))
theorem zjh (n : UInt64) : (zga n).length = 8 := zeb _ _
theorem p64O : (256 : Nat) ^ 8 = 18446744073709551616 := by decide
theorem z9t (l : List UInt8) : zdr (l.take 8) < 18446744073709551616 := by
 have h := zz7 (l.take 8)
 have hl : (l.take 8).length ≤ 8 := by rw [List.length_take]; omega
 have := Nat.pow_le_pow_right (show 0 < 256 by omega) hl
 rw [p64O] at this
 omega
theorem zpw (l : List UInt8) : (zd3 l).toNat = zdr (l.take 8) := by
 unfold zd3
 rw [UInt64.toNat_ofNat', Nat.mod_eq_of_lt (by have := z9t l; simpa using this)]
theorem z27 (l : List UInt8) (h : 8 ≤ l.length) : zga (zd3 l) = l.take 8 := by
 unfold zga
 rw [zpw]
 have := yby (l.take 8)
 rwa [show (l.take 8).length = 8 by rw [List.length_take]; omega] at this
def zgd (l : List UInt8) : Rt := Vector.ofFn fun i : Fin 32 => l.getD i.val 0
theorem yk3 (l : List UInt8) (i : Nat) (h : i < 32) : at8 (zgd l) i = bt l i := by
 unfold at8 bt zgd
 rw [zdc _ (by simp; exact h)]
 simp
theorem zdx (r : Rt) : r.toList.length = 32 := by simp
theorem z2o (l : List UInt8) (h : 32 ≤ l.length) : (zgd l).toList = l.take 32 := by
 refine yug (by rw [zdx, List.length_take]; omega) fun i hi => ?_
 rw [List.length_take] at hi
 rw [← ye2, yk3 l i (by omega), ydw l 32 i (by omega)]
def zbO : BlkO := ⟨zr, zr, 0, 0⟩
def ya1 (b : BlkO) : List UInt8 := 1 :: (b.root.toList ++ (b.parent.toList ++ (zga b.slot ++ zga b.just)))
def ypz (l : List UInt8) : BlkO := ⟨zgd (l.drop 1), zgd (l.drop 33), zd3 (l.drop 65), zd3 (l.drop 73)⟩
def isBO (l : List UInt8) : Bool := decide (l.length = 81) && decide (bt l 0 = 1)
def zr7 (l : List UInt8) : BlkO := if isBO l = true then ypz l else zbO
theorem ybl {l : List UInt8} (h : isBO l = false) : zr7 l = zbO := by unfold zr7; rw [if_neg (by rw [h]; exact Bool.false_ne_true)]
def zcO : CkO := ⟨0, zr⟩
def zaO : AtO := ⟨0, 0, zr, zcO, zcO⟩
def ytx (c : CkO) : List UInt8 := zga c.epoch ++ c.root.toList
def zqp (l : List UInt8) : CkO := ⟨zd3 l, zgd (l.drop 8)⟩
theorem ytj (l : List UInt8) (h : 40 ≤ l.length) : ytx (zqp l) = l.take 40 := by
 unfold ytx zqp
 rw [z27 _ (by omega), z2o _ (by rw [List.length_drop]; omega)]
 rw [show (40 : Nat) = 8 + 32 from rfl, List.take_add]
def yqe (l : List UInt8) : AtO := ⟨256 * bt l 1 + bt l 2, zd3 (l.drop 3), zgd (l.drop 11), zqp (l.drop 43), zqp (l.drop 83)⟩
def isAO (l : List UInt8) : Bool := decide (l.length = 123) && decide (bt l 0 = 2)
def zrt (l : List UInt8) : AtO := if isAO l = true then yqe l else zaO
theorem ybp {l : List UInt8} (h : isAO l = false) : zrt l = zaO := by unfold zrt; rw [if_neg (by rw [h]; exact Bool.false_ne_true)]
def zce (c : Array Value) (o : Nat) (r : Array Value) : Array Value := (c.toList.take o ++ (r.toList ++ c.toList.drop (o + r.size))).toArray
theorem zcg {c : Array Value} {x y z : List Value} {o : Nat} {r : Array Value} (hc : c.toList = x ++ (y ++ z)) (hx : x.length = o) (hy : y.length = r.size) : zce c o r = (x ++ (r.toList ++ z)).toArray := by
 unfold zce
 rw [hc, List.take_left' hx, ← List.drop_drop, List.drop_left' hx, List.drop_left' hy]
theorem zme {c : Array Value} {o : Nat} {r : Array Value} (h : o + r.size ≤ c.size) (j : Nat) : (zce c o r)[j]? = if o ≤ j ∧ j < o + r.size then r[j - o]? else c[j]? := by
 unfold zce
 rw [List.getElem?_toArray]
 by_cases h1 : j < o
 ·
  rw [if_neg (by omega), List.getElem?_append_left (by rw [List.length_take, Array.length_toList]; omega), List.getElem?_take, if_pos h1]
  simp
 ·
  have hl : (c.toList.take o).length = o := by rw [List.length_take, Array.length_toList]; omega
  rw [List.getElem?_append_right (by omega), hl]
  by_cases h2 : j < o + r.size
  ·
   rw [if_pos (by omega), List.getElem?_append_left (by rw [Array.length_toList]; omega)]
   simp
  ·
   rw [if_neg (by omega), List.getElem?_append_right (by rw [Array.length_toList]; omega), List.getElem?_drop, Array.length_toList]
   rw [show o + r.size + (j - o - r.size) = j by omega]
   simp
theorem zwc : ∀ (vs : List Value) (k o : Nat) (c : Array Value) (j : Nat), (((vs.zipIdx k).foldl (fun c (p : Value × Nat) => c.setIfInBounds (o + p.2) p.1) c) : Array Value)[j]? = if o + k ≤ j ∧ j < o + k + vs.length ∧ j < c.size then vs[j - (o + k)]? else c[j]?
 | [], k, o, c, j => by
  simp
  intros; omega
 | v :: r, k, o, c, j => by
  rw [List.zipIdx_cons, List.foldl_cons, zwc r (k + 1) o _ j]
  simp only [Array.size_setIfInBounds, Array.getElem?_setIfInBounds, List.length_cons]
  by_cases h1 : o + (k + 1) ≤ j ∧ j < o + (k + 1) + r.length ∧ j < c.size
  ·
   rw [if_pos h1, if_pos (by omega), show j - (o + k) = (j - (o + (k + 1))) + 1 by omega]
   simp
  ·
   rw [if_neg h1]
   by_cases h2 : o + k = j
   ·
    subst h2
    by_cases h3 : o + k < c.size
    ·
     rw [if_pos rfl, if_pos h3, if_pos (by omega)]; simp
    ·
     rw [if_pos rfl, if_neg h3, if_neg (by omega), Array.getElem?_eq_none (by omega)]
   ·
    rw [if_neg h2, if_neg (by omega)]
theorem yh8 (c : Array Value) (o : Nat) (r : Array Value) (h : o + r.size ≤ c.size) : (r.zipIdx.foldl (fun cs (p : Value × Nat) => cs.setIfInBounds (o + p.2) p.1) c) = zce c o r := by
 have e : (r.zipIdx.foldl (fun cs (p : Value × Nat) => cs.setIfInBounds (o + p.2) p.1) c) = ((r.toList.zipIdx 0).foldl (fun c (p : Value × Nat) => c.setIfInBounds (o + p.2) p.1) c) := by
  rw [← Array.foldl_toList, Array.toList_zipIdx]
 rw [e]
 apply Array.ext_getElem?
 intro j
 rw [zwc, zme h]
 by_cases hj : o ≤ j ∧ j < o + r.size
 ·
  rw [if_pos (by simp; omega), if_pos hj]; simp
 ·
  rw [if_neg (by simp; omega), if_neg hj]
theorem ybs (place : Nat → Option (Nat × Nat)) (c : Array Value) (i : Nat) (v : Value) (rest : List (Nat × Value)) (off size : Nat) (hp : place i = some (off, size)) (hs : v.cells.size = size) (hf : off + size ≤ c.size) : Instr.fill place c ((i, v) :: rest) = Instr.fill place (zce c off v.cells) rest := by
 rw [Instr.fill]
 simp only [hp]
 rw [if_neg (by simp; omega)]
 congr 1
 exact yh8 c off v.cells (by omega)
section
variable {w : World} {g : Nat} {c : Array Value} {t : TypeId} {fr : Nat × Nat}
theorem yjx {x z : List Value} {o n : Nat} {r : Array Value} (hg : w.heap[g]? = some (.cells c t fr)) (hc : c.toList = x ++ (r.toList ++ z)) (hx : x.length = o) (hr : r.size = n) : ldA w (.pointer (some ⟨g, o, none⟩)) n = some r := by
 refine zve hr fun j v hv => ?_
 rw [cell_of_row _ _ (o + j) c t _ hg]
 have hj : j < r.toList.length := (List.getElem?_eq_some_iff.1 hv).1
 rw [← Array.getElem?_toList, hc, List.getElem?_append_right (by omega), show o + j - x.length = j by omega, List.getElem?_append_left hj]
 exact hv
theorem zqz {x z : List Value} {o : Nat} {v : Value} (hg : w.heap[g]? = some (.cells c t fr)) (hc : c.toList = x ++ (v :: z)) (hx : x.length = o) : w.cell? ⟨g, o, none⟩ = some v := by
 rw [cell_of_row _ _ o c t _ hg, ← Array.getElem?_toList, hc, List.getElem?_append_right (by omega), show o - x.length = 0 by omega]
 rfl
theorem z7t {x z : List Value} {o : Nat} {r : Rt} (hg : w.heap[g]? = some (.cells c t fr)) (hc : c.toList = x ++ ((rc r).toList ++ z)) (hx : x.length = o) : SlB w (.slice (some ⟨g, o, none⟩) 32 32) r.toList := by
 refine ⟨some ⟨g, o, none⟩, 32, by rw [zdx], by rw [zdx]; omega, .inr ⟨g, o, rfl, (Array.getElem?_eq_some_iff.1 hg).1, fun i hi => ?_⟩⟩
 rw [zdx] at hi
 have h := yjx hg hc hx (zar r)
 have := (zrn h).2 i _ (by rw [Array.getElem?_toList]; exact z74 r i hi)
 rw [this, ye2]
theorem z7q {o n : Nat} (hg : w.heap[g]? = some (.cells c t (0, 0))) (h : o + n ≤ c.size) : wrA w (.pointer (some ⟨g, o, none⟩)) n = true := by
 rw [zds]
 intro j hj
 rw [cell_of_row _ _ (o + j) c t _ hg, frozen_of_row _ _ (o + j) c t hg]
 exact ⟨by rw [Array.getElem?_eq_getElem (by omega)]; rfl, rfl⟩
theorem zep (hg : w.heap[g]? = some (.cells c t (0, 0))) (o : Nat) (v : Value) : (w.setCell ⟨g, o, none⟩ v).heap[g]? = some (.cells (c.setIfInBounds o v) t (0, 0)) := by
 rw [setCell_eq_setRow w g o c t (0, 0) v hg]
 exact setRow_heap w g c _ t _ hg
theorem zgz : ∀ (vs : List Value) (o : Nat) (w : World) (c : Array Value), w.heap[g]? = some (.cells c t (0, 0)) → (w.setCells g o vs).heap[g]? = some (.cells ((vs.zipIdx o).foldl (fun c p => c.setIfInBounds p.2 p.1) c) t (0, 0))
 | [], _, _, _, hg => hg
 | v :: r, o, w, c, hg => by
  rw [World.setCells, zgz r (o + 1) _ _ (zep hg o v)]
  rfl
theorem zlg {o : Nat} {r : Array Value} (hg : w.heap[g]? = some (.cells c t (0, 0))) (h : o + r.size ≤ c.size) : (stA w (.pointer (some ⟨g, o, none⟩)) (.agg r)).heap[g]? = some (.cells (zce c o r) t (0, 0)) := by
 show (w.setCells g o r.toList).heap[g]? = _
 rw [zgz r.toList o w c hg]
 congr 2
 apply Array.ext_getElem?
 intro j
 rw [zh1, zme h]
 by_cases hj : o ≤ j ∧ j < o + r.size
 ·
  rw [if_pos (by simp; omega), if_pos hj]; simp
 ·
  rw [if_neg (by simp; omega), if_neg hj]
theorem zhp {o : Nat} {v : Value} (h : o < c.size) : c.setIfInBounds o v = zce c o #[v] := by
 apply Array.ext_getElem?
 intro j
 rw [zme (by simp; omega), Array.getElem?_setIfInBounds]
 by_cases hj : o = j
 ·
  subst hj; rw [if_pos rfl, if_pos h, if_pos (by simp)]; simp
 ·
  rw [if_neg hj, if_neg (by simp; omega)]
end
def numO (n : UInt64) : Value := .int .u64 (n.toNat : Int)
attribute [local go_sem] numO
def ccO (x : CkO) : Array Value := (numO x.epoch :: (rc x.root).toList).toArray
def bcO (b : BlkO) : Array Value := ((rc b.root).toList ++ ((rc b.parent).toList ++ [numO b.slot, numO b.just])).toArray
def acO (a : AtO) : Array Value := (.int .i64 a.val :: numO a.slot :: ((rc a.head).toList ++ ((ccO a.source).toList ++ (ccO a.target).toList))).toArray
theorem zd4 (r : Rt) : (rc r).toList.length = 32 := by rw [Array.length_toList, zar]
theorem zdb (x : CkO) : (ccO x).size = 33 := by simp [ccO, zar]
theorem zer (b : BlkO) : (bcO b).size = 66 := by simp [bcO, zar]
theorem zcy (a : AtO) : (acO a).size = 100 := by simp [acO, zar, zdb]
attribute [local go_sem] zdb zer zcy
theorem ydk (x : CkO) : (ccO x).toList.length = 33 := by rw [Array.length_toList, zdb]
theorem zqy (x : CkO) : (ccO x).toList = numO x.epoch :: (rc x.root).toList := rfl
theorem zgj (b : BlkO) : (bcO b).toList = (rc b.root).toList ++ ((rc b.parent).toList ++ [numO b.slot, numO b.just]) := rfl
theorem zit (a : AtO) : (acO a).toList = .int .i64 a.val :: numO a.slot :: ((rc a.head).toList ++ ((ccO a.source).toList ++ (ccO a.target).toList)) := rfl
theorem zw4 {l : List Value} (h : ∀ v ∈ l, v.oneCell' = true) : l.toArray.all (·.oneCell') = true := by
 rw [Array.all_eq_true_iff_forall_mem]
 intro v hv
 exact h v (by simpa using hv)
theorem zxu (x : CkO) : ∀ v ∈ (ccO x).toList, v.oneCell' = true := by
 intro v hv
 rw [zqy] at hv
 rcases List.mem_cons.1 hv with rfl | hv
 ·
  rfl
 ·
  exact zg9 _ v hv
theorem yj1 (b : BlkO) : ∀ v ∈ (bcO b).toList, v.oneCell' = true := by
 intro v hv
 rw [zgj, List.mem_append, List.mem_append] at hv
 rcases hv with hv | hv | hv
 ·
  exact zg9 _ v hv
 ·
  exact zg9 _ v hv
 ·
  simp at hv
  rcases hv with rfl | rfl <;> rfl
theorem ynj (a : AtO) : ∀ v ∈ (acO a).toList, v.oneCell' = true := by
 intro v hv
 rw [zit] at hv
 simp only [List.mem_cons, List.mem_append] at hv
 rcases hv with rfl | rfl | hv | hv | hv
 ·
  rfl
 ·
  rfl
 ·
  exact zg9 _ v hv
 ·
  exact zxu _ v hv
 ·
  exact zxu _ v hv
@[local go_sem] theorem yx1 (x : CkO) : okA 33 (.agg (ccO x)) = true := by
 show ((ccO x).size == 33 && (ccO x).all (·.oneCell')) = true
 rw [show (ccO x).all (·.oneCell') = true from zw4 (zxu x), zdb]; rfl
@[local go_sem] theorem yyh (b : BlkO) : okA 66 (.agg (bcO b)) = true := by
 show ((bcO b).size == 66 && (bcO b).all (·.oneCell')) = true
 rw [show (bcO b).all (·.oneCell') = true from zw4 (yj1 b), zer]; rfl
@[local go_sem] theorem yyk (a : AtO) : okA 100 (.agg (acO a)) = true := by
 show ((acO a).size == 100 && (acO a).all (·.oneCell')) = true
 rw [show (acO a).all (·.oneCell') = true from zw4 (ynj a), zcy]; rfl
@[local go_sem ↓ high] theorem ysj (ρ : Operand → Value) (dst : Option Tmp) (x : Operand) (ty : TypeId) (pos : String) (after : Array Edge) (guard : Option (Nat × Bool)) (w : World) :
  (execOp ρ { dst, op := .load 37 x, type := ty, pos, after, guard }).run Tryz.prog w = zje (ldA w (ρ x) 33) w (zbe Tryz.prog ρ { dst, op := .load 37 x, type := ty, pos, after, guard } w) :=
 zbp Tryz.isAgg37 Tryz.sizeOf37 ρ dst x ty pos after guard w
@[local go_sem ↓ high] theorem ypb (ρ : Operand → Value) (dst : Option Tmp) (x y : Operand) (ty : TypeId) (pos : String) (after : Array Edge) (guard : Option (Nat × Bool)) (w : World) :
  (execOp ρ { dst, op := .store 37 x y, type := ty, pos, after, guard }).run Tryz.prog w = zjf (wrA w (ρ x) 33 && okA 33 (ρ y)) (stA w (ρ x) (ρ y)) (zbe Tryz.prog ρ { dst, op := .store 37 x y, type := ty, pos, after, guard } w) :=
 zbh Tryz.sizeOf37 ρ dst x y ty pos after guard w
@[local go_sem ↓ high] theorem yrn (ρ : Operand → Value) (dst : Option Tmp) (x : Operand) (ty : TypeId) (pos : String) (after : Array Edge) (guard : Option (Nat × Bool)) (w : World) :
  (execOp ρ { dst, op := .load 69 x, type := ty, pos, after, guard }).run Tryz.prog w = zje (ldA w (ρ x) 66) w (zbe Tryz.prog ρ { dst, op := .load 69 x, type := ty, pos, after, guard } w) :=
 zbp Tryz.isAgg69 Tryz.sizeOf69 ρ dst x ty pos after guard w
@[local go_sem ↓ high] theorem yn2 (ρ : Operand → Value) (dst : Option Tmp) (x y : Operand) (ty : TypeId) (pos : String) (after : Array Edge) (guard : Option (Nat × Bool)) (w : World) :
  (execOp ρ { dst, op := .store 69 x y, type := ty, pos, after, guard }).run Tryz.prog w = zjf (wrA w (ρ x) 66 && okA 66 (ρ y)) (stA w (ρ x) (ρ y)) (zbe Tryz.prog ρ { dst, op := .store 69 x y, type := ty, pos, after, guard } w) :=
 zbh Tryz.sizeOf69 ρ dst x y ty pos after guard w
@[local go_sem ↓ high] theorem yt4 (ρ : Operand → Value) (dst : Option Tmp) (x : Operand) (ty : TypeId) (pos : String) (after : Array Edge) (guard : Option (Nat × Bool)) (w : World) :
  (execOp ρ { dst, op := .load 62 x, type := ty, pos, after, guard }).run Tryz.prog w = zje (ldA w (ρ x) 100) w (zbe Tryz.prog ρ { dst, op := .load 62 x, type := ty, pos, after, guard } w) :=
 zbp Tryz.isAgg62 Tryz.sizeOf62 ρ dst x ty pos after guard w
@[local go_sem ↓ high] theorem ytf (ρ : Operand → Value) (dst : Option Tmp) (x y : Operand) (ty : TypeId) (pos : String) (after : Array Edge) (guard : Option (Nat × Bool)) (w : World) :
  (execOp ρ { dst, op := .store 62 x y, type := ty, pos, after, guard }).run Tryz.prog w = zjf (wrA w (ρ x) 100 && okA 100 (ρ y)) (stA w (ρ x) (ρ y)) (zbe Tryz.prog ρ { dst, op := .store 62 x y, type := ty, pos, after, guard } w) :=
 zbh Tryz.sizeOf62 ρ dst x y ty pos after guard w
theorem z5e (w : World) : (zeroValue 37).run Tryz.prog w = .ok (.agg (ccO zcO)) w := by kernel_rfl
theorem ztx (w : World) : (zeroValue 69).run Tryz.prog w = .ok (.agg (bcO zbO)) w := by kernel_rfl
theorem zt6 (w : World) : (zeroValue 62).run Tryz.prog w = .ok (.agg (acO zaO)) w := by kernel_rfl
@[local go_sem ↓ high] theorem yo1 (ρ : Operand → Value) (dst : Option Tmp) (ty : TypeId) (pos : String) (after : Array Edge) (guard : Option (Nat × Bool)) (w : World) :
  (execOp ρ { dst, op := .alloc 37, type := ty, pos, after, guard }).run Tryz.prog w = .ok (.value (.pointer (some ⟨w.heap.size, 0, none⟩))) (w.alloc (.cells (ccO zcO) 37)) := by
 unfold execOp
 simp only [Instr.alloc, Sem.run_bind, z5e, Result.andThen_ok]
 rfl
@[local go_sem ↓ high] theorem yn7 (ρ : Operand → Value) (dst : Option Tmp) (ty : TypeId) (pos : String) (after : Array Edge) (guard : Option (Nat × Bool)) (w : World) :
  (execOp ρ { dst, op := .alloc 69, type := ty, pos, after, guard }).run Tryz.prog w = .ok (.value (.pointer (some ⟨w.heap.size, 0, none⟩))) (w.alloc (.cells (bcO zbO) 69)) := by
 unfold execOp
 simp only [Instr.alloc, Sem.run_bind, ztx, Result.andThen_ok]
 rfl
@[local go_sem ↓ high] theorem ytl (ρ : Operand → Value) (dst : Option Tmp) (ty : TypeId) (pos : String) (after : Array Edge) (guard : Option (Nat × Bool)) (w : World) :
  (execOp ρ { dst, op := .alloc 62, type := ty, pos, after, guard }).run Tryz.prog w = .ok (.value (.pointer (some ⟨w.heap.size, 0, none⟩))) (w.alloc (.cells (acO zaO) 62)) := by
 unfold execOp
 simp only [Instr.alloc, Sem.run_bind, zt6, Result.andThen_ok]
 rfl
theorem z75 (b : BlkO) (r : Rt) : zce (bcO b) 0 (rc r) = bcO { b with root := r } :=
 zcg (x := []) (zgj b) rfl (by rw [zd4, zar])
theorem zvh (b : BlkO) (r : Rt) : zce (bcO b) 32 (rc r) = bcO { b with parent := r } :=
 zcg (x := (rc b.root).toList) (zgj b) (zd4 _) (by rw [zd4, zar])
theorem ylp (b : BlkO) (n : UInt64) : zce (bcO b) 64 #[numO n] = bcO { b with slot := n } := by
 rw [zcg (c := bcO b) (r := #[numO n]) (x := (rc b.root).toList ++ (rc b.parent).toList) (y := [numO b.slot]) (z := [numO b.just]) (by rw [zgj]; simp) (by rw [List.length_append, zd4, zd4]) rfl]
 simp [bcO]
theorem ykz (b : BlkO) (n : UInt64) : zce (bcO b) 65 #[numO n] = bcO { b with just := n } := by
 rw [zcg (c := bcO b) (r := #[numO n]) (x := (rc b.root).toList ++ ((rc b.parent).toList ++ [numO b.slot])) (y := [numO b.just]) (z := []) (by rw [zgj]; simp) (by rw [List.length_append, List.length_append, zd4, zd4]; rfl) rfl]
 simp [bcO]
theorem yfx (x : CkO) (n : UInt64) : zce (ccO x) 0 #[numO n] = ccO { x with epoch := n } :=
 zcg (x := []) (y := [numO x.epoch]) (zqy x) rfl rfl
theorem z7o (x : CkO) (r : Rt) : zce (ccO x) 1 (rc r) = ccO { x with root := r } := by
 rw [zcg (c := ccO x) (o := 1) (r := rc r) (x := [numO x.epoch]) (y := (rc x.root).toList) (z := []) (by rw [zqy]; simp) rfl (by rw [zd4, zar])]
 simp [ccO]
theorem yrb (a : AtO) (n : Int) : zce (acO a) 0 #[.int .i64 n] = acO { a with val := n } :=
 zcg (x := []) (y := [.int .i64 a.val]) (zit a) rfl rfl
theorem yk7 (a : AtO) (n : UInt64) : zce (acO a) 1 #[numO n] = acO { a with slot := n } :=
 zcg (x := [.int .i64 a.val]) (y := [numO a.slot]) (zit a) rfl rfl
theorem z79 (a : AtO) (r : Rt) : zce (acO a) 2 (rc r) = acO { a with head := r } :=
 zcg (x := [.int .i64 a.val, numO a.slot]) (zit a) rfl (by rw [zd4, zar])
theorem zvs (a : AtO) (x : CkO) : zce (acO a) 34 (ccO x) = acO { a with source := x } := by
 rw [zcg (c := acO a) (x := .int .i64 a.val :: numO a.slot :: (rc a.head).toList) (y := (ccO a.source).toList) (z := (ccO a.target).toList) (by rw [zit]; simp) (by simp [zar]) (by rw [ydk, zdb])]
 simp [acO]
theorem zvk (a : AtO) (x : CkO) : zce (acO a) 67 (ccO x) = acO { a with target := x } := by
 rw [zcg (c := acO a) (x := .int .i64 a.val :: numO a.slot :: ((rc a.head).toList ++ (ccO a.source).toList)) (y := (ccO a.target).toList) (z := []) (by rw [zit]; simp) (by simp [zar, zdb]) (by rw [ydk, zdb])]
 simp [acO]
section
variable {w : World} {g : Nat} {t : TypeId} {fr : Nat × Nat}
theorem ycz {b : BlkO} (hg : w.heap[g]? = some (.cells (bcO b) t fr)) : SlB w (.slice (some ⟨g, 0, none⟩) 32 32) b.root.toList := z7t (x := []) hg (zgj b) rfl
theorem z5j {b : BlkO} (hg : w.heap[g]? = some (.cells (bcO b) t fr)) : SlB w (.slice (some ⟨g, 32, none⟩) 32 32) b.parent.toList := z7t hg (zgj b) (zd4 _)
theorem z03 {b : BlkO} (hg : w.heap[g]? = some (.cells (bcO b) t fr)) : w.cell? ⟨g, 64, none⟩ = some (numO b.slot) :=
 zqz (x := (rc b.root).toList ++ (rc b.parent).toList) hg (by rw [zgj]; simp; rfl) (by rw [List.length_append, zd4, zd4])
theorem z0f {b : BlkO} (hg : w.heap[g]? = some (.cells (bcO b) t fr)) : w.cell? ⟨g, 65, none⟩ = some (numO b.just) :=
 zqz (x := (rc b.root).toList ++ ((rc b.parent).toList ++ [numO b.slot])) (z := []) hg (by rw [zgj]; simp) (by rw [List.length_append, List.length_append, zd4, zd4]; rfl)
theorem yee {x : CkO} (hg : w.heap[g]? = some (.cells (ccO x) t fr)) : w.cell? ⟨g, 0, none⟩ = some (numO x.epoch) := zqz (x := []) hg (zqy x) rfl
theorem yei {a : AtO} (hg : w.heap[g]? = some (.cells (acO a) t fr)) : w.cell? ⟨g, 1, none⟩ = some (numO a.slot) := zqz (x := [.int .i64 a.val]) hg (zit a) rfl
end
attribute [irreducible] bcO acO ccO
def zlb (ns : List UInt64) : List UInt8 := ns.flatMap zga
theorem z9g (ns : List UInt64) (j : Nat) (h : j < ns.length) : zlb (ns.take (j + 1)) = zlb (ns.take j) ++ zga ns[j] := by
 rw [List.take_succ_eq_append_getElem h, zlb, List.flatMap_append]; simp [zlb]
theorem z10 (ns : List UInt64) : (zlb ns).length = 8 * ns.length := by
 induction ns with
 | nil => rfl
 | cons a l ih => rw [zlb, List.flatMap_cons, List.length_append, ← zlb, ih, zjh, List.length_cons]; omega
theorem z8d (n : UInt64) (m : Nat) (h : m < 8) : (zga n).take (m + 1) = (zga n).take m ++ [UInt8.ofNat (n.toNat / 256 ^ (7 - m) % 256)] := by
 have hl : m < (zga n).length := by rw [zjh]; exact h
 rw [List.take_succ_eq_append_getElem hl]
 congr 2
 have := z6j 8 n.toNat m h
 rw [← zga] at this
 unfold bt at this
 rw [zdc _ hl] at this
 have e : (zga n)[m].toNat = n.toNat / 256 ^ (7 - m) % 256 := by
  have h2 : (((zga n)[m]).toNat : Int) = ((n.toNat / 256 ^ (8 - 1 - m) % 256 : Nat) : Int) := this
  have h3 : (8 - 1 - m) = 7 - m := by omega
  rw [h3] at h2
  omega
 rw [← e, UInt8.ofNat_toNat]
theorem zsq (base : Nat) (v : Value) (k : List UInt8) (b cap : Nat) (ns : List UInt64) (w : World) (hown : Own w base v k) (hbase : base ≤ w.heap.size) (hlen : k.length + 8 * ns.length ≤ 1000000)
  (hb : b < w.heap.size) (hne : v.ownBlock ≠ some b) (hc : ∀ i (h : i < ns.length), w.cell? ⟨b, i, none⟩ = some (numO ns[i])) :
  Calls Tryz.prog 69 #[v, .slice (some ⟨b, 0, none⟩) ns.length cap] w fun e w' => ∃ v', e = .returned v' ∧ Own w' base v' (k ++ zlb ns) ∧ Grw w v w' v' := by
 have HO := Lib.hid hown
 have HC := Lib.hid hc
 have HN := Lib.hid hne
 clear hown hc hne
 go_enter Tryz.func69, Tryz.ntmps69
 go_wp2_with fail
 go_loopw [0, 10] (fun v1 i wr => ∃ j : Nat, j ≤ ns.length ∧ i = .int .i64 j ∧ Own wr base v1 (k ++ zlb (ns.take j)) ∧ Grw w v wr v1) (fun _ i _ => ns.length - (intOf i).toNat)
 case atStart => exact ⟨0, Nat.zero_le _, rfl, by simpa [zlb] using HO.out, Grw.refl _ _⟩
 case round =>
  obtain ⟨j, hj, rfl, ho, hg⟩ := hrel
  have HO1 := Lib.hid ho
  have HG1 := Lib.hid hg
  clear ho hg
  by_cases hlt : j < ns.length
  ·
   have i0 : (0 : Int) ≤ (j : Int) := by omega
   have i1 : (j : Int) < (ns.length : Int) := by omega
   have hcell : wr.cell? ⟨b, j, none⟩ = some (numO ns[j]) := (World.cell?_of_block (a := ⟨b, j, none⟩) (HG1.out.block hb HN.out)).trans (HC.out j hlt)
   obtain ⟨wo, rfl⟩ : ∃ wo : World, wo = wr := ⟨_, rfl⟩
   go_wp2_with fail
   go_loopw [0, 7] (fun v2 sh wr => ∃ m : Nat, m ≤ 8 ∧ sh = .int .i64 (56 - 8 * (m : Int)) ∧ Own wr base v2 (k ++ zlb (ns.take j) ++ (zga ns[j]).take m) ∧ Grw w v wr v2) (fun _ sh _ => (intOf sh + 8).toNat)
   case atStart => exact ⟨0, by omega, rfl, by simpa using HO1.out, HG1.out⟩
   case round =>
    obtain ⟨m, hm, rfl, ho2, hg2⟩ := hrel
    have HO2 := Lib.hid ho2
    have HG2 := Lib.hid hg2
    clear ho2 hg2
    by_cases hlt8 : m < 8
    ·
     have s0 : (0 : Int) ≤ 56 - 8 * (m : Int) := by omega
     have s1 : 56 - 8 * (m : Int) < 64 := by omega
     have HX : Hid (((ns[j].toNat : Nat) : Int) / 2 ^ (56 - 8 * m) % 256 = ((UInt8.ofNat (ns[j].toNat / 256 ^ (7 - m) % 256)).toNat : Int)) := by
      show _ = _
      rw [UInt8.toNat_ofNat', Nat.mod_eq_of_lt (show ns[j].toNat / 256 ^ (7 - m) % 256 < 2 ^ 8 by omega)]
      rw [show (256 : Nat) ^ (7 - m) = 2 ^ (56 - 8 * m) by rw [show (256 : Nat) = 2 ^ 8 from rfl, ← Nat.pow_mul]; congr 1; omega]
      simp
     have HL : Hid ((k ++ zlb (ns.take j) ++ (zga ns[j]).take m).length + 1 ≤ 140737488355328) := by
      show _ ≤ _
      rw [List.length_append, List.length_append, z10, List.length_take, List.length_take]
      omega
     have HT := Lib.hid (z8d ns[j] m hlt8)
     have HB := Lib.hid (Nat.le_trans hbase HG2.out.1.size)
     go_wp2_with (at_builtin; refine zdd _ rfl _ _ rfl base u0 _ rfl (zs3 HO2.out _) _ [UInt8.ofNat (ns[j].toNat / 256 ^ (7 - m) % 256)] rfl (yh7 _ _ _ _ _ rfl (ysk _ _ HX.out)) HL.out (by have := HB.out; simp; omega) ?_; intro v3 w3 ho3 hg3)
     go_roundw
     case rel => exact ⟨m + 1, by omega, by go_num, by rw [HT.out, ← List.append_assoc]; exact ho3, HG2.out.trans hg3.alloc⟩
     case measure => simp [intOf]; omega
    ·
     obtain rfl : m = 8 := by omega
     have HE : Hid (k ++ zlb (ns.take j) ++ (zga ns[j]).take 8 = k ++ zlb (ns.take (j + 1))) := by
      show _ = _
      rw [z9g ns j hlt, show (zga ns[j]).take 8 = zga ns[j] from List.take_of_length_le (by rw [zjh]; omega), List.append_assoc]
     go_wp2_with fail
     go_roundw
     case rel => exact ⟨j + 1, by omega, by go_num, by rw [← HE.out]; exact HO2.out, HG2.out⟩
     case measure => simp [intOf]; omega
  ·
   obtain rfl : j = ns.length := by omega
   go_wp2_with fail
   go_ret
   exact ⟨_, rfl, by have := HO1.out; rwa [List.take_length] at this, HG1.out⟩
theorem yg0 (w : World) (ns : List UInt64) (c : Array Value) (t : TypeId) (b : Nat) (hb : b = w.heap.size) (hc : c = (ns.map numO).toArray) : ∀ i (h : i < ns.length), (w.alloc (.cells c t)).cell? ⟨b, i, none⟩ = some (numO ns[i]) := fun i h => by
 subst hb hc
 rw [cell_of_row _ _ i _ _ _ (heap_alloc_last w _), List.getElem?_toArray, List.getElem?_map, List.getElem?_eq_getElem h]
 rfl
theorem yia (n m : UInt64) : zlb [n, m] = zga n ++ zga m := by simp [zlb]
theorem zja {w : World} {o ob : Obj} {g : Nat} (h : w.heap[g]? = some ob) : (w.alloc o).heap[g]? = some ob := by
 rw [Below.heap_alloc w o g (Array.getElem?_eq_some_iff.1 h).1]; exact h
theorem Grw.heap {w w' : World} {v v' : Value} (h : Grw w v w' v') {g : Nat} {ob : Obj} (hg : w.heap[g]? = some ob) (hne : v.ownBlock ≠ some g) : w'.heap[g]? = some ob := by
 rw [h.block (Array.getElem?_eq_some_iff.1 hg).1 hne]; exact hg
theorem zyu (x : BlkO) (w : World) :
  Calls Tryz.prog 30 #[.agg (bcO x)] w fun e w' => ∃ v, e = .returned v ∧ Own w' w.heap.size v (ya1 x) ∧ Below w.heap.size w w' := by
 have hmk : ∀ w : World, (Instr.makeSlice 46 (.int .i64 0) (.int .i64 81)).run Tryz.prog w = .ok (.slice (some ⟨w.heap.size, 0, none⟩) 0 81) (w.alloc (.cells (Array.replicate 81 (.int .u8 0)) 5)) := fun _ => by kernel_rfl
 obtain ⟨Z, hZ⟩ : ∃ Z : Array Value, Z = Array.replicate 81 (.int .u8 0) := ⟨_, rfl⟩
 rw [← hZ] at hmk
 have HZ : Hid (Z.size = 81) := by show _ = _; rw [hZ]; simp
 clear hZ
 have HO1 : Hid (Own (((w.alloc (.cells (bcO x) 69)).alloc (.cells Z 5)).alloc (.cells #[.int .u8 1] 5)) (w.heap.size + 1) (.slice (some ⟨w.heap.size + 1, 0, none⟩) 0 81) []) := zs3 (ym4 _ 81 (by unfold maxLen; omega) Z HZ.out _ (by simp)) _
 have HS1 : Hid (SlB (((w.alloc (.cells (bcO x) 69)).alloc (.cells Z 5)).alloc (.cells #[.int .u8 1] 5)) (.slice (some ⟨w.heap.size + 1 + 1, 0, none⟩) 1 1) [1]) := yh7 _ [1] _ _ _ (by simp) rfl
 go_enter Tryz.func30, Tryz.ntmps30
 go_wp2_with (at_builtin; first
  | (
    refine zdd _ rfl (.tmp 5) (.tmp 6) rfl (w.heap.size + 1) _ [] rfl HO1.out _ [1] rfl HS1.out (by simp) (by simp) ?_; intro v2 w2 ho2 hg2
    have HO2 := Lib.hid ho2; clear ho2
    have HG2 := Lib.hid hg2; clear hg2
    have HB2 : Hid (w2.heap[w.heap.size]? = some (.cells (bcO x) 69 (0, 0))) := HG2.out.heap (zja (zja (heap_alloc_last w _))) (by show some (w.heap.size + 1) ≠ some w.heap.size; intro e; injection e; omega)
    have HS2 : Hid (w.heap.size + 1 ≤ w2.heap.size) := by have := HG2.out.1.size; simp at this; show _ ≤ _; omega)
  | (
    refine zdd _ rfl (.tmp 8) (.tmp 10) rfl (w.heap.size + 1) _ _ rfl HO2.out _ x.root.toList rfl (ycz HB2.out) (by rw [zdx]; simp) HS2.out ?_; intro v3 w3 ho3 hg3
    have HO3 := Lib.hid ho3; clear ho3
    have HG3 := Lib.hid hg3; clear hg3
    have HB3 : Hid (w3.heap[w.heap.size]? = some (.cells (bcO x) 69 (0, 0))) := HG3.out.heap HB2.out (fun e => by have := (World.ownsRow.lt HO2.out _ e).1; omega)
    have HS3 : Hid (w.heap.size + 1 ≤ w3.heap.size) := Nat.le_trans HS2.out HG3.out.1.size)
  | (
    refine zdd _ rfl (.tmp 12) (.tmp 14) rfl (w.heap.size + 1) _ _ rfl HO3.out _ x.parent.toList rfl (z5j HB3.out) (by rw [List.length_append, zdx, zdx]; simp) HS3.out ?_; intro v4 w4 ho4 hg4
    have HO4 := Lib.hid ho4; clear ho4
    have HG4 := Lib.hid hg4; clear hg4
    have HB4 : Hid (w4.heap[w.heap.size]? = some (.cells (bcO x) 69 (0, 0))) := HG4.out.heap HB3.out (fun e => by have := (World.ownsRow.lt HO3.out _ e).1; omega)
    have HS4 : Hid (w.heap.size + 1 ≤ w4.heap.size) := Nat.le_trans HS3.out HG4.out.1.size
    have hc4 := z03 HB4.out
    have hd4 := z0f HB4.out))
 refine (zsq (w.heap.size + 1) v4 _ w4.heap.size 2 [x.slot, x.just] _ (zs3 HO4.out _) (by have := HS4.out; simp; omega) (by rw [List.length_append, List.length_append, zdx, zdx]; simp) (by simp) (yuf HO4.out (Nat.le_refl _)) (yg0 _ _ _ _ _ rfl rfl)).mono ?_
 rintro e w5 ⟨v5, rfl, ho5, hg5⟩
 have HO5 := Lib.hid ho5
 have HG5 := Lib.hid hg5
 clear ho5 hg5 hc4 hd4
 go_wp2_with fail
 go_ret
 refine ⟨_, rfl, ?_, ?_⟩
 ·
  have h := ykp HO5.out (Nat.le_succ _)
  rw [yia] at h
  have e : [] ++ [1] ++ x.root.toList ++ x.parent.toList ++ (zga x.slot ++ zga x.just) = ya1 x := by simp [ya1]
  rwa [e] at h
 ·
  have b1 := ((((Below.refl w.heap.size w).alloc (Nat.le_refl _) (.cells (bcO x) 69)).alloc (by simp) (.cells Z 5)).alloc (by simp; omega) (.cells #[.int .u8 1] 5))
  have b2 := b1.trans ((HG2.out.own HO1.out (by simp)).mono (Nat.le_succ _))
  have b3 := b2.trans ((HG3.out.own HO2.out HS2.out).mono (Nat.le_succ _))
  have b4 := b3.trans ((HG4.out.own HO3.out HS3.out).mono (Nat.le_succ _))
  exact b4.trans ((HG5.out.alloc.own HO4.out HS4.out).mono (Nat.le_succ _))
theorem zy7 (x : BlkO) (w : World) :
  Calls Tryz.prog 30 #[.agg (bcO x)] w fun e w' => ∃ v, e = .returned v ∧ SlB w' v (ya1 x) ∧ Below w.heap.size w w' :=
 (zyu x w).mono fun _ _ ⟨v, h1, h2, h3⟩ => ⟨v, h1, yp8 h2, h3⟩
section
variable {P : Program}
theorem zdw {T : TypeId} {n : Nat} (hA : ∀ w, (isAgg T).run P w = .ok true w) (hS : ∀ w, (Go.sizeOf T).run P w = .ok n w) (fn : Func) (d e : Nat) (h : fn.results = #[.cell d T, .tmp e]) (tmps : Array Value) (w : World) (b : Nat) (c : Array Value) (v : Value) (hp : tmps.getD d undef = .pointer (some ⟨b, 0, none⟩)) (hv : tmps.getD e undef = v) (hl : ldA w (.pointer (some ⟨b, 0, none⟩)) n = some c) :
  (results fn tmps).run P w = .ok (.tuple #[.agg c, v]) w := by
 have hp' : tmps[d]?.getD undef = .pointer (some ⟨b, 0, none⟩) := by simpa using hp
 have hv' : tmps[e]?.getD undef = v := by simpa using hv
 simp [results, h, hp', hv', asAddr, zdq hA hS w b 0 c hl]
end
def zlp (l : List UInt8) (tag n : Nat) : Bool := decide (l.length = n) && decide (bt l 0 = (tag : Int))
theorem znp (v : Value) (l : List UInt8) (tag n : Nat) (hn : 0 < n) (w : World) (h : SlB w v l) :
  Calls Tryz.prog 136 #[v, .int .u8 (tag : Int), .int .i64 (n : Int)] w fun e w' => e = .returned (.bool (zlp l tag n)) ∧ w' = w := by
 obtain ⟨p, cap, rfl, hcap, hx⟩ := h
 have HH : Hid (zlp l tag n = (decide (l.length = n) && decide (bt l 0 = (tag : Int)))) := rfl
 generalize zlp l tag n = B at *
 by_cases hl : l.length = n
 ·
  obtain ⟨b, off, rfl, hb, hx⟩ := hx.resolve_left (fun e => by rw [e] at hl; simp at hl; omega)
  have hc := hx 0 (by omega)
  rw [Nat.add_zero] at hc
  have i1 : (0 : Int) < (l.length : Int) := by omega
  have e1 : ((l.length : Int) == (n : Int)) = true := by simp; omega
  have bb := yb4 l 0
  have e2 : (bt l 0 == (tag : Int)) = decide (bt l 0 = (tag : Int)) := rfl
  have e3 : B = decide (bt l 0 = (tag : Int)) := by rw [HH.out]; simp [hl]
  have HE := Lib.hid e3; clear e3 hx hl HH
  go_enter Tryz.func136, Tryz.ntmps136
  go_wp2_with fail
  go_ret
  exact ⟨by rw [HE.out]; rfl, rfl⟩
 ·
  have e1 : ((l.length : Int) == (n : Int)) = false := by simp; omega
  have e3 : B = false := by rw [HH.out]; simp [hl]
  have HE := Lib.hid e3; clear e3 hx hl HH
  go_enter Tryz.func136, Tryz.ntmps136
  go_wp2_with fail
  go_ret
  exact ⟨by rw [HE.out]; rfl, rfl⟩
def z22 (x v : Value) (l l' : List UInt8) (w : World) (e : Ending) (w' : World) : Prop := ∃ vr, e = .returned (.tuple #[x, vr]) ∧ (∀ W, SlB W v l → SlB W vr l') ∧ Below w.heap.size w w'
theorem ycd (b off len cap n : Nat) (h : n ≤ cap) (hn : 0 < n) : yca (.slice (some ⟨b, off, none⟩) len cap) (.int .i64 (n : Int)) = some (.slice (some ⟨b, off, none⟩) n cap) := by
 show (if 0 ≤ (n : Int) ∧ (n : Int) ≤ (cap : Int) then some (sliced (some ⟨b, off, none⟩) 0 (n : Int).toNat cap 1) else none) = _
 rw [if_pos (by omega), Int.toNat_natCast]
 unfold sliced
 rw [if_neg (by omega)]
 simp [Addr.add]
theorem ynd (l : List UInt8) (k : Nat) (hk : k < l.length) (h8 : k < 8) : bits .or .u64 (IntKind.u64.wrap (((zdr (l.take k) : Nat) : Int) * 256)) (bt l k) = ((zdr (l.take (k + 1)) : Nat) : Int) := by
 have h1 := zz7 (l.take k)
 have h2 : (l.take k).length ≤ 7 := by rw [List.length_take]; omega
 have h3 := Nat.pow_le_pow_right (show 0 < 256 by omega) h2
 have h4 : (256 : Nat) ^ 7 = 72057594037927936 := by decide
 have bb := yb4 l k
 rw [z34 l k hk, wraps_u64 _ (by omega) (by omega)]
 have e : ((l[k].toNat : Nat) : Int) = bt l k := by unfold bt; rw [zdc l hk]
 have hj := bits_join .u64 64 (by decide) wraps_u64 8 (((zdr (l.take k) : Nat) : Int) * 256) (bt l k) (by omega) (by omega) (by omega) (by omega) (by omega) (by omega)
 rw [hj]
 clear hj
 omega
theorem zet (v : Value) (l : List UInt8) (hl : 8 ≤ l.length) (w : World) (h : SlB w v l) :
  Calls Tryz.prog 138 #[v] w (z22 (numO (zd3 l)) v l (l.drop 8) w) := by
 obtain ⟨b, off, cap, rfl, hcap, hb, hx⟩ := z0x h (by omega)
 clear h
 have HX := Lib.hid hx; clear hx
 have hc8 : yca (.slice (some ⟨b, off, none⟩) l.length cap) (.int .i64 8) = some (.slice (some ⟨b, off, none⟩) 8 cap) := ycd b off l.length cap 8 (by omega) (by omega)
 obtain ⟨vr, hvr, hsr⟩ := zm4 (some ⟨b, off, none⟩) cap l 8 hl hcap
 have HR := Lib.hid hsr; clear hsr
 replace hvr : z0a (.slice (some ⟨b, off, none⟩) l.length cap) (.int .i64 8) = some vr := hvr
 have HN : Hid (numO (zd3 l) = .int .u64 ((zdr (l.take 8) : Nat) : Int)) := by show _ = _; rw [numO, zpw]
 generalize numO (zd3 l) = R at *
 go_enter Tryz.func138, Tryz.ntmps138
 go_wp2_with fail
 go_loopw [4, 10] (fun n i wr => ∃ k : Nat, k ≤ 8 ∧ i = .int .i64 k ∧ n = .int .u64 ((zdr (l.take k) : Nat) : Int) ∧ wr = w) (fun _ i _ => 8 - (intOf i).toNat)
 case atStart => exact ⟨0, by omega, rfl, rfl, rfl⟩
 case round =>
  obtain ⟨k, hk, rfl, rfl, rfl⟩ := hrel
  by_cases hlt : k < 8
  ·
   have i0 : (0 : Int) ≤ (k : Int) := by omega
   have i1 : (k : Int) < 8 := by omega
   have hc := HX.out k (by omega)
   have bb := yb4 l k
   have HOR : Hid (bits .or .u64 (IntKind.u64.wrap (((zdr (l.take k) : Nat) : Int) * 256)) (bt l k) = ((zdr (l.take (k + 1)) : Nat) : Int)) := ynd l k (by omega) hlt
   go_wp2_with fail
   refine ⟨⟨k + 1, by omega, by go_num, by rw [HOR.out], trivial⟩, by simp [intOf]; omega⟩
  ·
   obtain rfl : k = 8 := by omega
   go_wp2_with fail
   go_quiet (fail)
   go_wp2_with fail
   go_ret2
   exact ⟨_, by rw [HN.out]; rfl, HR.out, zap (Below.refl _ _) _⟩
theorem z1k (r : Rt) (l : List UInt8) (h : 32 ≤ l.length) : (splice (rc r).toList 0 (b8 (l.take 32))).toArray = rc (zgd l) := by
 have hl : (b8 (l.take 32)).length = 32 := by rw [zkb, List.length_take]; omega
 unfold splice
 rw [List.take_zero, List.nil_append, List.drop_of_length_le (by rw [hl, zd4]; omega), List.append_nil, ← z2o l h, ← yym]
theorem zgf (v : Value) (l : List UInt8) (hl : 32 ≤ l.length) (w : World) (h : SlB w v l) :
  Calls Tryz.prog 137 #[v] w (z22 (.agg (rc (zgd l))) v l (l.drop 32) w) := by
 obtain ⟨b, off, cap, rfl, hcap, hb, hx⟩ := z0x h (by omega)
 clear h
 have HX := Lib.hid hx; clear hx
 obtain ⟨vr, hvr, hsr⟩ := zm4 (some ⟨b, off, none⟩) cap l 32 hl hcap
 have HR := Lib.hid hsr; clear hsr
 replace hvr : z0a (.slice (some ⟨b, off, none⟩) l.length cap) (.int .i64 32) = some vr := hvr
 have HG0 : Hid (((w.alloc (.cells (rc zr) 23)).alloc (.cells (rc zr) 23)).heap[w.heap.size + 1]? = some (.cells (rc zr).toList.toArray 23 (0, 0))) := heap_alloc2_new w _ _
 have HSRC : Hid (∀ j u, (b8 (l.take 32))[j]? = some u → ((w.alloc (.cells (rc zr) 23)).alloc (.cells (rc zr) 23)).cell? ((⟨b, off, none⟩ : Addr).add j) = some u) := by
  intro j u hu
  have hj : j < 32 := by
   have := (List.getElem?_eq_some_iff.1 hu).1
   rw [zkb, List.length_take] at this
   omega
  rw [z6z _ j (by rw [List.length_take]; omega), ydw l 32 j hj] at hu
  rw [Addr.add_mid, World.cell?_alloc_lt _ _ _ (by simp; omega), World.cell?_alloc_lt _ _ _ hb, HX.out j (by omega)]
  exact hu
 have hlen : (b8 (l.take 32)).length = 32 := by rw [zkb, List.length_take]; omega
 have HL := Lib.hid hlen
 clear hlen
 have HW : Hid (Below (w.heap.size + 1) (w.alloc (.cells (rc zr) 23)) ((w.alloc (.cells (rc zr) 23)).alloc (.cells (rc zr) 23))) := (Below.refl _ _).alloc (by simp) _
 go_enter Tryz.func137, Tryz.ntmps137
 go_wp2_with (
        refine wpList_copy_splice rfl (.tmp 6) (.tmp 7) 46 46 rfl 5 Tryz.underlying46 Tryz.sizeByte _ _ _ _ _ _ rfl rfl (w.heap.size + 1) 0 (rc zr).toList 23 HG0.out (b8 (l.take 32)) (by rw [HL.out]; show 32 = min l.length 32; omega) (fun _ => ⟨rfl, _, rfl, HSRC.out⟩) (by rw [HL.out, zd4]; omega) (yo7 _) (w.heap.size + 1) _ HW.out (Nat.le_refl _) ?_
        intro w2 hg2 hb2)
 have HB2 := Lib.hid hb2
 have h1 : w2.heap[w.heap.size + 1]? = some (.cells (rc (zgd l)) 23 (0, 0)) := by have := hg2.out; rwa [z1k zr l hl] at this
 have h0 : w2.heap[w.heap.size]? = some (.cells (rc zr) 23 (0, 0)) := by rw [hb2.block _ (by omega)]; exact heap_alloc_last w _
 have hr : ldA w2 (.pointer (some ⟨w.heap.size + 1, 0, none⟩)) 32 = some (rc (zgd l)) := zaf h1 (zar _)
 have hwr : wrA w2 (.pointer (some ⟨w.heap.size, 0, none⟩)) 32 = true := za8 h0 (zar _)
 have HWR := Lib.hid hwr
 clear h1 h0 hg2 hb2
 rw [HL.out]
 go_region
 go_wp2_with fail
 have B : Below w.heap.size w (stA w2.drew (.pointer (some ⟨w.heap.size, 0, none⟩)) (.agg (rc (zgd l)))) :=
  zav ((((Below.refl w.heap.size w).alloc (Nat.le_refl _) _).trans (HB2.out.mono (Nat.le_succ _))).drew) (Nat.le_refl _)
 exact bodyPost_ret (zdw Tryz.isAgg23 Tryz.sizeOf23 _ 2 3 rfl _ _ _ (rc (zgd l)) vr rfl rfl (zfy (by rw [ylc]; exact HWR.out) (zar _))) rfl ⟨vr, rfl, HR.out, B⟩
theorem zlf (v : Value) (l : List UInt8) (hl : 40 ≤ l.length) (w : World) (h : SlB w v l) :
  Calls Tryz.prog 139 #[v] w (z22 (.agg (ccO (zqp l))) v l (l.drop 40) w) := by
 have HS := Lib.hid h
 clear h
 have b0 : Below w.heap.size w ((w.alloc (.cells (ccO zcO) 37)).alloc (.cells (ccO zcO) 37)) := ((Below.refl w.heap.size w).alloc (Nat.le_refl _) _).alloc (by simp) _
 have HB0 := Lib.hid b0; clear b0
 go_enter Tryz.func139, Tryz.ntmps139
 go_wp2_with fail
 refine (zet v l (by omega) _ (zdn HB0.out HS.out)).mono ?_
 rintro e w1 ⟨v1, rfl, hs1, hb1⟩
 have g1 : w1.heap[w.heap.size + 1]? = some (.cells (ccO zcO) 37 (0, 0)) := by rw [hb1.block _ (by simp)]; exact heap_alloc2_new w _ _
 have g0 : w1.heap[w.heap.size]? = some (.cells (ccO zcO) 37 (0, 0)) := by rw [hb1.block _ (by simp; omega)]; exact heap_alloc2_old w _ _
 have c1 : w1.cell? ⟨w.heap.size + 1, 0, none⟩ = some (numO zcO.epoch) := yee g1
 have f1 : w1.frozen? ⟨w.heap.size + 1, 0, none⟩ = false := frozen_of_row _ _ _ _ _ g1
 have HB1 := Lib.hid (zad HB0.out hb1)
 have HS1 := Lib.hid (hs1 _ HS.out)
 have HT1 := Lib.hid hs1
 have HG1 := Lib.hid g1
 have HG0 := Lib.hid g0
 clear hs1 hb1 g1 g0
 have HB1' : Hid (Below w.heap.size w (w1.setCell ⟨w.heap.size + 1, 0, none⟩ (numO (zd3 l)))) := HB1.out.setCell (by show w.heap.size ≤ w.heap.size + 1; omega) _
 have HG1' : Hid ((w1.setCell ⟨w.heap.size + 1, 0, none⟩ (numO (zd3 l))).heap[w.heap.size + 1]? = some (.cells (ccO ⟨zd3 l, zr⟩) 37 (0, 0))) := by
  show _ = _
  rw [zep HG1.out, zhp (by rw [zdb]; omega), yfx]
  rfl
 have HG0' : Hid ((w1.setCell ⟨w.heap.size + 1, 0, none⟩ (numO (zd3 l))).heap[w.heap.size]? = some (.cells (ccO zcO) 37 (0, 0))) := by
  show _ = _
  rw [Below.heap_setCell _ _ _ _ (by show w.heap.size ≠ w.heap.size + 1; omega)]; exact HG0.out
 go_wp2_with fail
 refine (zgf v1 (l.drop 8) (by rw [List.length_drop]; omega) _ (zdn HB1'.out HS1.out)).mono ?_
 rintro e w2 ⟨v2, rfl, hs2, hb2⟩
 have hz1 : w.heap.size + 1 < (w1.setCell ⟨w.heap.size + 1, 0, none⟩ (numO (zd3 l))).heap.size := (Array.getElem?_eq_some_iff.1 HG1'.out).1
 have g1 : w2.heap[w.heap.size + 1]? = some (.cells (ccO ⟨zd3 l, zr⟩) 37 (0, 0)) := by rw [hb2.block _ hz1]; exact HG1'.out
 have g0 : w2.heap[w.heap.size]? = some (.cells (ccO zcO) 37 (0, 0)) := by rw [hb2.block _ (by omega)]; exact HG0'.out
 have HT2 := Lib.hid hs2
 have HB2 := Lib.hid (zad HB1'.out hb2)
 have wr2 : wrA w2 (.pointer (some ⟨w.heap.size + 1, 1, none⟩)) 32 = true := z7q g1 (by rw [zdb]; omega)
 have g1' : (stA w2 (.pointer (some ⟨w.heap.size + 1, 1, none⟩)) (.agg (rc (zgd (l.drop 8))))).heap[w.heap.size + 1]? = some (.cells (ccO (zqp l)) 37 (0, 0)) := by
  rw [zlg g1 (by rw [zdb, zar]; omega), z7o]; rfl
 have g0' : (stA w2 (.pointer (some ⟨w.heap.size + 1, 1, none⟩)) (.agg (rc (zgd (l.drop 8))))).heap[w.heap.size]? = some (.cells (ccO zcO) 37 (0, 0)) := by
  rw [zc0 (by omega)]; exact g0
 have ld3 : ldA (stA w2 (.pointer (some ⟨w.heap.size + 1, 1, none⟩)) (.agg (rc (zgd (l.drop 8))))) (.pointer (some ⟨w.heap.size + 1, 0, none⟩)) 33 = some (ccO (zqp l)) := zaf g1' (zdb _)
 have wr3 : wrA (stA w2 (.pointer (some ⟨w.heap.size + 1, 1, none⟩)) (.agg (rc (zgd (l.drop 8))))) (.pointer (some ⟨w.heap.size, 0, none⟩)) 33 = true := za8 g0' (zdb _)
 have HW3 := Lib.hid wr3
 have HB3 : Hid (Below w.heap.size w (stA w2 (.pointer (some ⟨w.heap.size + 1, 1, none⟩)) (.agg (rc (zgd (l.drop 8)))))) := zav HB2.out (by omega)
 clear hs2 hb2 g1 g0 g1' g0' c1 f1 hz1
 go_wp2_with fail
 exact bodyPost_ret (zdw Tryz.isAgg37 Tryz.sizeOf37 _ 2 3 rfl _ _ _ (ccO (zqp l)) v2 rfl rfl (zfy HW3.out (zdb _))) rfl ⟨v2, rfl, fun W hW => by have := HT2.out W (HT1.out W hW); rwa [List.drop_drop] at this, zav HB3.out (Nat.le_refl _)⟩
structure StO (T : TypeId) (z : Array Value) (w W : World) (c : Array Value) : Prop where
 below : Below w.heap.size w W
 out : W.heap[w.heap.size + 1]? = some (.cells c T (0, 0))
 res : W.heap[w.heap.size]? = some (.cells z T (0, 0))
section
variable {T : TypeId} {z : Array Value} {w W : World} {c : Array Value}
theorem StO.start (w : World) (T : TypeId) (z c : Array Value) : StO T z w ((w.alloc (.cells z T)).alloc (.cells c T)) c :=
 ⟨((Below.refl w.heap.size w).alloc (Nat.le_refl _) _).alloc (by simp) _, heap_alloc2_new w _ _, heap_alloc2_old w _ _⟩
theorem StO.call (h : StO T z w W c) {w' : World} (hb : Below W.heap.size W w') : StO T z w w' c := by
 have h1 := (Array.getElem?_eq_some_iff.1 h.out).1
 exact ⟨zad h.below hb, by rw [hb.block _ h1]; exact h.out, by rw [hb.block _ (by omega)]; exact h.res⟩
theorem StO.store (h : StO T z w W c) (o : Nat) (r : Array Value) (hr : o + r.size ≤ c.size) : StO T z w (stA W (.pointer (some ⟨w.heap.size + 1, o, none⟩)) (.agg r)) (zce c o r) :=
 ⟨zav h.below (by omega), zlg h.out hr, by rw [zc0 (by omega)]; exact h.res⟩
theorem StO.set (h : StO T z w W c) (o : Nat) (v : Value) (hr : o < c.size) : StO T z w (W.setCell ⟨w.heap.size + 1, o, none⟩ v) (zce c o #[v]) :=
 ⟨h.below.setCell (by show w.heap.size ≤ w.heap.size + 1; omega) _, by rw [zep h.out, zhp hr], by rw [Below.heap_setCell _ _ _ _ (by show w.heap.size ≠ w.heap.size + 1; omega)]; exact h.res⟩
theorem StO.to (h : StO T z w W c) {c' : Array Value} (e : c = c') : StO T z w W c' := e ▸ h
theorem StO.wr (h : StO T z w W c) (o n : Nat) (hr : o + n ≤ c.size) : wrA W (.pointer (some ⟨w.heap.size + 1, o, none⟩)) n = true := z7q h.out hr
theorem StO.fz (h : StO T z w W c) (o : Nat) : W.frozen? ⟨w.heap.size + 1, o, none⟩ = false := frozen_of_row _ _ _ _ _ h.out
theorem StO.ld (h : StO T z w W c) (n : Nat) (hn : c.size = n) : ldA W (.pointer (some ⟨w.heap.size + 1, 0, none⟩)) n = some c := zaf h.out hn
theorem StO.wr0 (h : StO T z w W c) (n : Nat) (hn : z.size = n) : wrA W (.pointer (some ⟨w.heap.size, 0, none⟩)) n = true := za8 h.res hn
end
@[local go_sem ↓ high] theorem yo0 (ρ : Operand → Value) (dst : Option Tmp) (ty : TypeId) (pos : String) (after : Array Edge) (guard : Option (Nat × Bool)) (w : World) :
  (execOp ρ { dst, op := .build 69 #[], type := ty, pos, after, guard }).run Tryz.prog w = .ok (.value (.agg (bcO zbO))) w := by
 unfold execOp
 simp only [Instr.build, Sem.run_bind, ztx, Result.andThen_ok, run_underlying Tryz.underlying69]
 simp [Instr.fill, Value.cells]
@[local go_sem ↓ high] theorem ytc (ρ : Operand → Value) (dst : Option Tmp) (ty : TypeId) (pos : String) (after : Array Edge) (guard : Option (Nat × Bool)) (w : World) :
  (execOp ρ { dst, op := .build 62 #[], type := ty, pos, after, guard }).run Tryz.prog w = .ok (.value (.agg (acO zaO))) w := by
 unfold execOp
 simp only [Instr.build, Sem.run_bind, zt6, Result.andThen_ok, run_underlying Tryz.underlying62]
 simp [Instr.fill, Value.cells]
def zyc (l : List UInt8) (w : World) (e : Ending) (w' : World) : Prop := e = .returned (.tuple #[.agg (bcO (zr7 l)), .bool (isBO l)]) ∧ Below w.heap.size w w'
def yhc (l : List UInt8) (w : World) (e : Ending) (w' : World) : Prop := e = .returned (.tuple #[.agg (acO (zrt l)), .bool (isAO l)]) ∧ Below w.heap.size w w'
theorem yf8 (v : Value) (l : List UInt8) (w : World) (h : SlB w v l) (hB : isBO l = false) : Calls Tryz.prog 113 #[v] w (zyc l w) := by
 have HS := Lib.hid h; clear h
 have b0 : Below w.heap.size w (w.alloc (.cells (bcO zbO) 69)) := (Below.refl w.heap.size w).alloc (Nat.le_refl _) _
 have c1 := znp v l 1 81 (by omega) _ (zdn b0 HS.out)
 rw [show zlp l 1 81 = isBO l from rfl, hB] at c1
 have HB := Lib.hid hB
 clear hB
 go_enter Tryz.func113, Tryz.ntmps113
 go_wp2_with fail
 refine c1.mono ?_
 rintro e w1 ⟨rfl, rfl⟩
 clear c1
 go_wp2_with fail
 exact bodyPost_ret (zdw Tryz.isAgg69 Tryz.sizeOf69 _ 2 3 rfl _ _ _ (bcO zbO) _ rfl rfl (by go_simp)) rfl ⟨by rw [ybl HB.out, HB.out]; rfl, by assumption⟩
theorem ymp {l : List UInt8} (h : isBO l = true) : l.length = 81 := by
 unfold isBO at h
 rw [Bool.and_eq_true, decide_eq_true_iff] at h
 exact h.1
theorem yio {l : List UInt8} (h : isAO l = true) : l.length = 123 := by
 unfold isAO at h
 rw [Bool.and_eq_true, decide_eq_true_iff] at h
 exact h.1
theorem z8a (v : Value) (l : List UInt8) (w : World) (h : SlB w v l) (hB : isBO l = true) : Calls Tryz.prog 113 #[v] w (zyc l w) := by
 have HS := Lib.hid h; clear h
 have hl := ymp hB
 have b0 : Below w.heap.size w (w.alloc (.cells (bcO zbO) 69)) := (Below.refl w.heap.size w).alloc (Nat.le_refl _) _
 have c1 := znp v l 1 81 (by omega) _ (zdn b0 HS.out)
 rw [show zlp l 1 81 = isBO l from rfl, hB] at c1
 have HE : Hid (Ending.returned (.tuple #[.agg (bcO (ypz l)), .bool true]) = .returned (.tuple #[.agg (bcO (zr7 l)), .bool (isBO l)])) := by
  show _ = _
  unfold zr7
  rw [if_pos hB, hB]
 obtain ⟨p, cap, rfl, hcap⟩ := yeu HS.out
 obtain ⟨v0, hv0, hs0⟩ := zm4 p cap l 1 (by omega) hcap
 replace hv0 : z0a (.slice p l.length cap) (.int .i64 1) = some v0 := hv0
 obtain ⟨l1, hl1⟩ : ∃ l1, l1 = l.drop 1 := ⟨_, rfl⟩
 obtain ⟨l2, hl2⟩ : ∃ l2, l2 = l.drop 33 := ⟨_, rfl⟩
 obtain ⟨l3, hl3⟩ : ∃ l3, l3 = l.drop 65 := ⟨_, rfl⟩
 obtain ⟨l4, hl4⟩ : ∃ l4, l4 = l.drop 73 := ⟨_, rfl⟩
 have HG : Hid (ypz l = ⟨zgd l1, zgd l2, zd3 l3, zd3 l4⟩) := by show _ = _; rw [hl1, hl2, hl3, hl4]; rfl
 have HS0 := Lib.hid (hs0 _ HS.out)
 rw [← hl1] at HS0
 have H1 : Hid (32 ≤ l1.length) := by show _ ≤ _; rw [hl1, List.length_drop]; omega
 have H2 : Hid (32 ≤ l2.length) := by show _ ≤ _; rw [hl2, List.length_drop]; omega
 have H3 : Hid (8 ≤ l3.length) := by show _ ≤ _; rw [hl3, List.length_drop]; omega
 have H4 : Hid (8 ≤ l4.length) := by show _ ≤ _; rw [hl4, List.length_drop]; omega
 have E2 : Hid (l1.drop 32 = l2) := by show _ = _; rw [hl1, hl2, List.drop_drop]
 have E3 : Hid (l2.drop 32 = l3) := by show _ = _; rw [hl2, hl3, List.drop_drop]
 have E4 : Hid (l3.drop 8 = l4) := by show _ = _; rw [hl3, hl4, List.drop_drop]
 clear hB hs0 b0 hl hl1 hl2 hl3 hl4
 have HZ0 := Lib.hid (StO.start w 69 (bcO zbO) (bcO zbO))
 go_enter Tryz.func113, Tryz.ntmps113
 go_wp2_with fail
 refine c1.mono ?_
 rintro e w1 ⟨rfl, rfl⟩
 clear c1
 go_wp2_with fail
 refine (zgf v0 l1 H1.out _ (zdn HZ0.out.below HS0.out)).mono ?_
 rintro e w1 ⟨v1, rfl, hs1, hb1⟩
 have HZ1 := Lib.hid (HZ0.out.call hb1)
 rw [E2.out] at hs1
 have HS1 := Lib.hid (hs1 _ HS0.out)
 have r1 := HZ1.out.wr 0 32 (by rw [zer]; omega)
 have HY1 := Lib.hid ((HZ1.out.store 0 (rc (zgd l1)) (by rw [zer, zar]; omega)).to (z75 zbO _))
 clear hs1 hb1 hv0
 go_wp2_with fail
 refine (zgf v1 l2 H2.out _ (zdn HY1.out.below HS1.out)).mono ?_
 rintro e w2 ⟨v2, rfl, hs2, hb2⟩
 have HZ2 := Lib.hid (HY1.out.call hb2)
 rw [E3.out] at hs2
 have HS2 := Lib.hid (hs2 _ HS1.out)
 have r2 := HZ2.out.wr 32 32 (by rw [zer]; omega)
 have HY2 := Lib.hid ((HZ2.out.store 32 (rc (zgd l2)) (by rw [zer, zar]; omega)).to (zvh _ _))
 clear hs2 hb2 r1
 go_wp2_with fail
 refine (zet v2 l3 H3.out _ (zdn HY2.out.below HS2.out)).mono ?_
 rintro e w3 ⟨v3, rfl, hs3, hb3⟩
 have HZ3 := Lib.hid (HY2.out.call hb3)
 rw [E4.out] at hs3
 have HS3 := Lib.hid (hs3 _ HS2.out)
 have r3 := z03 HZ3.out.out
 have q3 := HZ3.out.fz 64
 have HY3 := Lib.hid ((HZ3.out.set 64 (numO (zd3 l3)) (by rw [zer]; omega)).to (ylp _ _))
 clear hs3 hb3 r2
 go_wp2_with fail
 refine (zet v3 l4 H4.out _ (zdn HY3.out.below HS3.out)).mono ?_
 rintro e w4 ⟨v4, rfl, hs4, hb4⟩
 have HZ4 := Lib.hid (HY3.out.call hb4)
 have r4 := z0f HZ4.out.out
 have q4 := HZ4.out.fz 65
 have HY4 := Lib.hid ((HZ4.out.set 65 (numO (zd3 l4)) (by rw [zer]; omega)).to (ykz _ _))
 have l4' := HY4.out.ld 66 (zer _)
 have t4 := HY4.out.wr0 66 (zer _)
 have HT4 := Lib.hid t4
 clear hs4 hb4 r3 q3
 simp only [numO] at l4' t4
 go_wp2_with fail
 refine bodyPost_ret (zdw Tryz.isAgg69 Tryz.sizeOf69 _ 2 3 rfl _ _ _ _ _ rfl rfl (zfy HT4.out (zer _))) rfl ⟨?_, zav HY4.out.below (Nat.le_refl _)⟩
 rw [← HE.out, HG.out]
 rfl
theorem z93 (v : Value) (l : List UInt8) (w : World) (h : SlB w v l) : Calls Tryz.prog 113 #[v] w (zyc l w) := by
 cases hB : isBO l with
 | true => exact z8a v l w h hB
 | false => exact yf8 v l w h hB
def zp2 (pl : List (Nat × Nat)) (c : Array Value) : List (Nat × Value) → Option (Array Value)
 | [] => some c
 | (i, v) :: rest =>
  match pl[i]? with
  | some (off, size) => if v.cells.size = size ∧ off + size ≤ c.size then zp2 pl (zce c off v.cells) rest else none
  | none => none
theorem zs2 (pl : List (Nat × Nat)) : ∀ (ps : List (Nat × Value)) (c r : Array Value), zp2 pl c ps = some r → Instr.fill (fun i => pl.toArray[i]?) c ps = some r
 | [], c, r, h => h
 | (i, v) :: rest, c, r, h => by
  unfold zp2 at h
  cases hp : pl[i]? with
  | none => rw [hp] at h; cases h
  | some os =>
   obtain ⟨off, size⟩ := os
   rw [hp] at h
   dsimp only at h
   split at h
   ·
    rename_i hs
    rw [ybs (fun i => pl.toArray[i]?) c i v rest off size (by simpa using hp) hs.1 hs.2]
    exact zs2 pl rest _ r h
   ·
    cases h
section
variable {P : Program}
theorem zol {T : TypeId} {fs : Array Field} {pl : List (Nat × Nat)} {z : Array Value} (hz : ∀ w, (zeroValue T).run P w = .ok (.agg z) w) (hu : P.underlying T = some (.struct fs)) (hp : ∀ w, (fs.mapM (m := Sem) fun f => do pure (f.offset, ← Go.sizeOf f.type)).run P w = .ok pl.toArray w) (parts : Array (Nat × Value)) (w : World) (r : Array Value) (h : zp2 pl z parts.toList = some r) :
  (Instr.build T parts).run P w = .ok (.agg r) w := by
 have hf := zs2 pl parts.toList z r h
 simp only [Instr.build, Sem.run_bind, hz, Result.andThen_ok, run_underlying hu, hp, Value.cells, hf]
 rfl
theorem yab {T : TypeId} {fs : Array Field} {pl : List (Nat × Nat)} {z : Array Value} (hz : ∀ w, (zeroValue T).run P w = .ok (.agg z) w) (hu : P.underlying T = some (.struct fs)) (hp : ∀ w, (fs.mapM (m := Sem) fun f => do pure (f.offset, ← Go.sizeOf f.type)).run P w = .ok pl.toArray w)
  (ρ : Operand → Value) (dst : Option Tmp) (ps : Array (Nat × Operand)) (ty : TypeId) (pos : String) (after : Array Edge) (guard : Option (Nat × Bool)) (w : World) :
  (execOp ρ { dst, op := .build T ps, type := ty, pos, after, guard }).run P w = vOut ((zp2 pl z (ps.toList.map fun p => (p.1, ρ p.2))).map .agg) w (zbe P ρ { dst, op := .build T ps, type := ty, pos, after, guard } w) := by
 cases h : zp2 pl z (ps.toList.map fun p => (p.1, ρ p.2)) with
 | none => rfl
 | some r =>
  unfold execOp
  simp only [Sem.run_bind]
  rw [zol hz hu hp _ w r (by simpa using h)]
  rfl
end
def placesAO : List (Nat × Nat) := [(0, 1), (1, 1), (2, 32), (34, 33), (67, 33)]
theorem ykq : ∀ w : World, ((Tryz.prog.fieldsOf 62).mapM (m := Sem) fun f => do pure (f.offset, ← Go.sizeOf f.type)).run Tryz.prog w = .ok placesAO.toArray w := fun _ => by kernel_rfl
theorem yp6 : Tryz.prog.underlying 62 = some (.struct (Tryz.prog.fieldsOf 62)) := by kernel_rfl
@[local go_sem ↓ high] theorem ys6 (ρ : Operand → Value) (dst : Option Tmp) (p : Nat × Operand) (ps : List (Nat × Operand)) (ty : TypeId) (pos : String) (after : Array Edge) (guard : Option (Nat × Bool)) (w : World) :
  (execOp ρ { dst, op := .build 62 (p :: ps).toArray, type := ty, pos, after, guard }).run Tryz.prog w = vOut ((zp2 placesAO (acO zaO) ((p.1, ρ p.2) :: ps.map fun p => (p.1, ρ p.2))).map .agg) w (zbe Tryz.prog ρ { dst, op := .build 62 (p :: ps).toArray, type := ty, pos, after, guard } w) :=
 yab zt6 yp6 ykq ρ dst (p :: ps).toArray ty pos after guard w
attribute [local go_sem] zp2 placesAO z75 zvh yrb z79 zvs zvk z7o
theorem StO.drew {T : TypeId} {z : Array Value} {w W : World} {c : Array Value} (h : StO T z w W c) : StO T z w W.drew c := ⟨h.below.drew, h.out, h.res⟩
theorem z2x {c r : Array Value} (h : c.size = r.size) : zce c 0 r = r := by
 unfold zce
 rw [List.take_zero, List.nil_append, List.drop_of_length_le (by simp; omega), List.append_nil, Array.toArray_toList]
theorem ysb (x y : Int) (hx : 0 ≤ x) (hx1 : x < 256) (hy : 0 ≤ y) (hy1 : y < 256) : bits .or .i64 (x * 256) y = 256 * x + y := by
 have hj := bits_join .i64 62 (by decide) (fun n h1 h2 => IntWalk.i64_in n (by omega)) 8 (x * 256) y (by omega) (by omega) (by omega) (by omega) (by omega) (by omega)
 rw [hj]
 omega
theorem ysf (v : Value) (l : List UInt8) (w : World) (h : SlB w v l) (hB : isAO l = false) : Calls Tryz.prog 114 #[v] w (yhc l w) := by
 have HS := Lib.hid h; clear h
 have b0 : Below w.heap.size w (w.alloc (.cells (acO zaO) 62)) := (Below.refl w.heap.size w).alloc (Nat.le_refl _) _
 have c1 := znp v l 2 123 (by omega) _ (zdn b0 HS.out)
 rw [show zlp l 2 123 = isAO l from rfl, hB] at c1
 have HB := Lib.hid hB
 clear hB
 go_enter Tryz.func114, Tryz.ntmps114
 go_wp2_with fail
 refine c1.mono ?_
 rintro e w1 ⟨rfl, rfl⟩
 clear c1
 go_wp2_with fail
 exact bodyPost_ret (zdw Tryz.isAgg62 Tryz.sizeOf62 _ 2 3 rfl _ _ _ (acO zaO) _ rfl rfl (by go_simp)) rfl ⟨by rw [ybp HB.out, HB.out]; rfl, by assumption⟩
theorem ylr (v : Value) (l : List UInt8) (w : World) (h : SlB w v l) (hB : isAO l = true) : Calls Tryz.prog 114 #[v] w (yhc l w) := by
 have HS := Lib.hid h
 have hl := yio hB
 have b0 : Below w.heap.size w (w.alloc (.cells (acO zaO) 62)) := (Below.refl w.heap.size w).alloc (Nat.le_refl _) _
 have c1 := znp v l 2 123 (by omega) _ (zdn b0 HS.out)
 rw [show zlp l 2 123 = isAO l from rfl, hB] at c1
 have HE : Hid (Ending.returned (.tuple #[.agg (acO (yqe l)), .bool true]) = .returned (.tuple #[.agg (acO (zrt l)), .bool (isAO l)])) := by
  show _ = _
  unfold zrt
  rw [if_pos hB, hB]
 obtain ⟨b, off, cap, rfl, hcap, hb, hx⟩ := z0x h (by omega)
 obtain ⟨v0, hv0, hs0⟩ := zm4 (some ⟨b, off, none⟩) cap l 3 (by omega) hcap
 replace hv0 : z0a (.slice (some ⟨b, off, none⟩) l.length cap) (.int .i64 3) = some v0 := hv0
 have x1 : (w.alloc (.cells (acO zaO) 62)).cell? ⟨b, off + 1, none⟩ = some (.int .u8 (bt l 1)) := by rw [World.cell?_alloc_lt _ _ _ hb]; exact hx 1 (by omega)
 have x2 : (w.alloc (.cells (acO zaO) 62)).cell? ⟨b, off + 2, none⟩ = some (.int .u8 (bt l 2)) := by rw [World.cell?_alloc_lt _ _ _ hb]; exact hx 2 (by omega)
 have i1 : (1 : Int) < (l.length : Int) := by omega
 have i2 : (2 : Int) < (l.length : Int) := by omega
 have y1 := yb4 l 1
 have y2 := yb4 l 2
 have hor := ysb (bt l 1) (bt l 2) y1.1 y1.2 y2.1 y2.2
 obtain ⟨l1, hl1⟩ : ∃ l1, l1 = l.drop 3 := ⟨_, rfl⟩
 obtain ⟨l2, hl2⟩ : ∃ l2, l2 = l.drop 11 := ⟨_, rfl⟩
 obtain ⟨l3, hl3⟩ : ∃ l3, l3 = l.drop 43 := ⟨_, rfl⟩
 obtain ⟨l4, hl4⟩ : ∃ l4, l4 = l.drop 83 := ⟨_, rfl⟩
 have HG : Hid (yqe l = ⟨256 * bt l 1 + bt l 2, zd3 l1, zgd l2, zqp l3, zqp l4⟩) := by show _ = _; rw [hl1, hl2, hl3, hl4]; rfl
 have HS0 := Lib.hid (hs0 _ HS.out)
 rw [← hl1] at HS0
 have H1 : Hid (8 ≤ l1.length) := by show _ ≤ _; rw [hl1, List.length_drop]; omega
 have H2 : Hid (32 ≤ l2.length) := by show _ ≤ _; rw [hl2, List.length_drop]; omega
 have H3 : Hid (40 ≤ l3.length) := by show _ ≤ _; rw [hl3, List.length_drop]; omega
 have H4 : Hid (40 ≤ l4.length) := by show _ ≤ _; rw [hl4, List.length_drop]; omega
 have E2 : Hid (l1.drop 8 = l2) := by show _ = _; rw [hl1, hl2, List.drop_drop]
 have E3 : Hid (l2.drop 32 = l3) := by show _ = _; rw [hl2, hl3, List.drop_drop]
 have E4 : Hid (l3.drop 40 = l4) := by show _ = _; rw [hl3, hl4, List.drop_drop]
 clear hB hs0 hl h hx hl1 hl2 hl3 hl4
 have HZ0 := Lib.hid (StO.start w 62 (acO zaO) (acO zaO))
 go_enter Tryz.func114, Tryz.ntmps114
 go_wp2_with fail
 refine c1.mono ?_
 rintro e w1 ⟨rfl, rfl⟩
 clear c1
 go_wp2_with fail
 go_region
 have HY0 := Lib.hid ((HZ0.out.drew.store 0 (acO { zaO with val := 256 * bt l 1 + bt l 2 }) (by rw [zcy, zcy]; omega)).to (z2x (by rw [zcy, zcy])))
 clear x1 x2 y1 y2 hor b0
 go_wp2_with fail
 refine (zet v0 l1 H1.out _ (zdn HY0.out.below HS0.out)).mono ?_
 rintro e w1 ⟨v1, rfl, hs1, hb1⟩
 have HZ1 := Lib.hid (HY0.out.call hb1)
 rw [E2.out] at hs1
 have HS1 := Lib.hid (hs1 _ HS0.out)
 have r1 := yei HZ1.out.out
 have q1 := HZ1.out.fz 1
 have HY1 := Lib.hid ((HZ1.out.set 1 (numO (zd3 l1)) (by rw [zcy]; omega)).to (yk7 _ _))
 clear hs1 hb1 hv0
 go_wp2_with fail
 refine (zgf v1 l2 H2.out _ (zdn HY1.out.below HS1.out)).mono ?_
 rintro e w2 ⟨v2, rfl, hs2, hb2⟩
 have HZ2 := Lib.hid (HY1.out.call hb2)
 rw [E3.out] at hs2
 have HS2 := Lib.hid (hs2 _ HS1.out)
 have r2 := HZ2.out.wr 2 32 (by rw [zcy]; omega)
 have HY2 := Lib.hid ((HZ2.out.store 2 (rc (zgd l2)) (by rw [zcy, zar]; omega)).to (z79 _ _))
 clear hs2 hb2 r1 q1
 go_wp2_with fail
 refine (zlf v2 l3 H3.out _ (zdn HY2.out.below HS2.out)).mono ?_
 rintro e w3 ⟨v3, rfl, hs3, hb3⟩
 have HZ3 := Lib.hid (HY2.out.call hb3)
 rw [E4.out] at hs3
 have HS3 := Lib.hid (hs3 _ HS2.out)
 have r3 := HZ3.out.wr 34 33 (by rw [zcy]; omega)
 have HY3 := Lib.hid ((HZ3.out.store 34 (ccO (zqp l3)) (by rw [zcy, zdb]; omega)).to (zvs _ _))
 clear hs3 hb3 r2
 go_wp2_with fail
 refine (zlf v3 l4 H4.out _ (zdn HY3.out.below HS3.out)).mono ?_
 rintro e w4 ⟨v4, rfl, hs4, hb4⟩
 have HZ4 := Lib.hid (HY3.out.call hb4)
 have r4 := HZ4.out.wr 67 33 (by rw [zcy]; omega)
 have HY4 := Lib.hid ((HZ4.out.store 67 (ccO (zqp l4)) (by rw [zcy, zdb]; omega)).to (zvk _ _))
 have l4' := HY4.out.ld 100 (zcy _)
 have t4 := HY4.out.wr0 100 (zcy _)
 have HT4 := Lib.hid t4
 clear hs4 hb4 r3
 go_wp2_with fail
 refine bodyPost_ret (zdw Tryz.isAgg62 Tryz.sizeOf62 _ 2 3 rfl _ _ _ _ _ rfl rfl (zfy HT4.out (zcy _))) rfl ⟨?_, zav HY4.out.below (Nat.le_refl _)⟩
 rw [← HE.out, HG.out]
 rfl
theorem ylx (v : Value) (l : List UInt8) (w : World) (h : SlB w v l) : Calls Tryz.prog 114 #[v] w (yhc l w) := by
 cases hB : isAO l with
 | true => exact ylr v l w h hB
 | false => exact ysf v l w h hB
end
end Go.Proofs.YtmihlihlpdkdcaaGreat
