import Derived.Test.YtmihlihlpdkdcaaGreatS33
import Derived.Laws.StructEq
import Derived.Lib.EndianBits
namespace Go.Proofs.YtmihlihlpdkdcaaGreat
open Go.RowKit
set_option maxRecDepth 200000
set_option maxHeartbeats 64000000
section
open Go.RowKit
structure CkO where
 epoch : UInt64
 root : Rt
structure BlkO where
 root : Rt
 parent : Rt
 slot : UInt64
 just : UInt64
structure AtO where
 val : Int
 slot : UInt64
 head : Rt
 source : CkO
 target : CkO
def dgsO : Nat → Nat → List UInt8
 | 0, _ => []
 | k + 1, m => dgsO k (m / 256) ++ [UInt8.ofNat (m % 256)]
def zdb (l : List UInt8) : Nat := l.foldl (fun n d => 256 * n + d.toNat) 0
theorem zdr : ∀ k m, (dgsO k m).length = k
 | 0, _ => rfl
 | k + 1, m => by rw [dgsO, List.length_append, zdr k]; rfl
theorem zj6 (l : List UInt8) (d : UInt8) : zdb (l ++ [d]) = 256 * zdb l + d.toNat := by simp [zdb]
theorem z1t (l : List UInt8) (k : Nat) (hk : k < l.length) : zdb (l.take (k + 1)) = 256 * zdb (l.take k) + l[k].toNat := by
 rw [List.take_succ_eq_append_getElem hk, zj6]
theorem zrp {p : List UInt8 → Prop} (h0 : p []) (h1 : ∀ l d, p l → p (l ++ [d])) : ∀ (n : Nat) (l : List UInt8), l.length = n → p l
 | 0, l, h => by rw [List.length_eq_zero_iff.1 h]; exact h0
 | n + 1, l, h => by
  have hne : l ≠ [] := fun e => by rw [e] at h; simp at h
  rw [← List.dropLast_concat_getLast hne]
  exact h1 _ _ (zrp h0 h1 n _ (by rw [List.length_dropLast]; omega))
theorem zyn (l : List UInt8) : zdb l < 256 ^ l.length := by
 refine zrp (p := fun l => zdb l < 256 ^ l.length) (by simp [zdb]) (fun l d h => ?_) _ l rfl
 rw [zj6, List.length_append, List.length_singleton, Nat.pow_succ]
 have := d.toNat_lt
 omega
theorem z6a (l : List UInt8) : dgsO l.length (zdb l) = l := by
 refine zrp (p := fun l => dgsO l.length (zdb l) = l) rfl (fun l d h => ?_) _ l rfl
 have hd := d.toNat_lt
 rw [zj6, List.length_append, List.length_singleton, dgsO]
 have e1 : (256 * zdb l + d.toNat) / 256 = zdb l := by omega
 have e2 : (256 * zdb l + d.toNat) % 256 = d.toNat := by omega
 rw [e1, e2, h, UInt8.ofNat_toNat]
theorem z5d : ∀ (k m j : Nat), j < k → bt (dgsO k m) j = ((m / 256 ^ (k - 1 - j) % 256 : Nat) : Int)
 | 0, _, _, h => by omega
 | k + 1, m, j, h => by
  unfold bt
  rw [dgsO]
  by_cases e : j = k
  ·
   subst e
   have hl : j < (dgsO j (m / 256) ++ [UInt8.ofNat (m % 256)]).length := by rw [List.length_append, zdr]; simp
   rw [zc0 _ hl, List.getElem_append_right (by rw [zdr]; omega)]
   simp [zdr]
  ·
   have hj : j < k := by omega
   have ih := z5d k (m / 256) j hj
   unfold bt at ih
   have hl : j < (dgsO k (m / 256)).length := by rw [zdr]; exact hj
   rw [zc0 _ (by rw [List.length_append, zdr]; omega), List.getElem_append_left hl]
   rw [zc0 _ hl] at ih
   rw [ih, Nat.div_div_eq_div_mul]
   rw [show k + 1 - 1 - j = (k - 1 - j) + 1 by omega, Nat.pow_succ, Nat.mul_comm]
def zfg (n : UInt64) : List UInt8 := dgsO 8 n.toNat
def zdi (l : List UInt8) : UInt64 := UInt64.ofNat (zdb (l.take 8))
theorem zic (n : UInt64) : (zfg n).length = 8 := zdr _ _
theorem p64O : (256 : Nat) ^ 8 = 18446744073709551616 := by decide
theorem z6k (l : List UInt8) : zdb (l.take 8) < 18446744073709551616 := by
 have h := zyn (l.take 8)
 have hl : (l.take 8).length ≤ 8 := by rw [List.length_take]; omega
 have := Nat.pow_le_pow_right (show 0 < 256 by omega) hl
 rw [p64O] at this
 omega
theorem zny (l : List UInt8) : (zdi l).toNat = zdb (l.take 8) := by
 unfold zdi
 rw [UInt64.toNat_ofNat', Nat.mod_eq_of_lt (by have := z6k l; simpa using this)]
theorem z11 (l : List UInt8) (h : 8 ≤ l.length) : zfg (zdi l) = l.take 8 := by
 unfold zfg
 rw [zny]
 have := z6a (l.take 8)
 rwa [show (l.take 8).length = 8 by rw [List.length_take]; omega] at this
def zfi (l : List UInt8) : Rt := Vector.ofFn fun i : Fin 32 => l.getD i.val 0
theorem yiv (l : List UInt8) (i : Nat) (h : i < 32) : at8 (zfi l) i = bt l i := by
 unfold at8 bt zfi
 rw [zc0 _ (by simp; exact h)]
 simp
theorem zde (r : Rt) : r.toList.length = 32 := by simp
theorem zxv (l : List UInt8) (h : 32 ≤ l.length) : (zfi l).toList = l.take 32 := by
 refine ypo (by rw [zde, List.length_take]; omega) fun i hi => ?_
 rw [List.length_take] at hi
 rw [← ya9, yiv l i (by omega), yaj l 32 i (by omega)]
def zbO : BlkO := ⟨zr, zr, 0, 0⟩
def z5s (b : BlkO) : List UInt8 := 1 :: (b.root.toList ++ (b.parent.toList ++ (zfg b.slot ++ zfg b.just)))
def ylr (l : List UInt8) : BlkO := ⟨zfi (l.drop 1), zfi (l.drop 33), zdi (l.drop 65), zdi (l.drop 73)⟩
def isBO (l : List UInt8) : Bool := decide (l.length = 81) && decide (bt l 0 = 1)
def zpf (l : List UInt8) : BlkO := if isBO l = true then ylr l else zbO
theorem z6n {l : List UInt8} (h : isBO l = false) : zpf l = zbO := by unfold zpf; rw [if_neg (by rw [h]; exact Bool.false_ne_true)]
def zcO : CkO := ⟨0, zr⟩
def zaO : AtO := ⟨0, 0, zr, zcO, zcO⟩
def yq1 (c : CkO) : List UInt8 := zfg c.epoch ++ c.root.toList
def zoo (l : List UInt8) : CkO := ⟨zdi l, zfi (l.drop 8)⟩
theorem yo5 (l : List UInt8) (h : 40 ≤ l.length) : yq1 (zoo l) = l.take 40 := by
 unfold yq1 zoo
 rw [z11 _ (by omega), zxv _ (by rw [List.length_drop]; omega)]
 rw [show (40 : Nat) = 8 + 32 from rfl, List.take_add]
def yny (l : List UInt8) : AtO := ⟨256 * bt l 1 + bt l 2, zdi (l.drop 3), zfi (l.drop 11), zoo (l.drop 43), zoo (l.drop 83)⟩
def isAO (l : List UInt8) : Bool := decide (l.length = 123) && decide (bt l 0 = 2)
def zq9 (l : List UInt8) : AtO := if isAO l = true then yny l else zaO
theorem z7e {l : List UInt8} (h : isAO l = false) : zq9 l = zaO := by unfold zq9; rw [if_neg (by rw [h]; exact Bool.false_ne_true)]
def zb3 (c : Array Value) (o : Nat) (r : Array Value) : Array Value := (c.toList.take o ++ (r.toList ++ c.toList.drop (o + r.size))).toArray
theorem zb5 {c : Array Value} {x y z : List Value} {o : Nat} {r : Array Value} (hc : c.toList = x ++ (y ++ z)) (hx : x.length = o) (hy : y.length = r.size) : zb3 c o r = (x ++ (r.toList ++ z)).toArray := by
 unfold zb3
 rw [hc, List.take_left' hx, ← List.drop_drop, List.drop_left' hx, List.drop_left' hy]
theorem zkl {c : Array Value} {o : Nat} {r : Array Value} (h : o + r.size ≤ c.size) (j : Nat) : (zb3 c o r)[j]? = if o ≤ j ∧ j < o + r.size then r[j - o]? else c[j]? := by
 unfold zb3
 rw [List.getElem?_toArray]
 by_cases h1 : j < o
 ·
  rw [if_neg (by omega), List.getElem?_append_left (by rw [List.length_take, Array.length_toList]; omega), List.getElem?_take, if_pos h1]
  simp
 ·
  have hl : (c.toList.take o).length = o := by rw [List.length_take, Array.length_toList]; omega
  rw [List.getElem?_append_right (by omega), hl]
  by_cases h2 : j < o + r.size
  ·
   rw [if_pos (by omega), List.getElem?_append_left (by rw [Array.length_toList]; omega)]
   simp
  ·
   rw [if_neg (by omega), List.getElem?_append_right (by rw [Array.length_toList]; omega), List.getElem?_drop, Array.length_toList]
   rw [show o + r.size + (j - o - r.size) = j by omega]
   simp
theorem zso : ∀ (vs : List Value) (k o : Nat) (c : Array Value) (j : Nat), (((vs.zipIdx k).foldl (fun c (p : Value × Nat) => c.setIfInBounds (o + p.2) p.1) c) : Array Value)[j]? = if o + k ≤ j ∧ j < o + k + vs.length ∧ j < c.size then vs[j - (o + k)]? else c[j]?
 | [], k, o, c, j => by
  simp
  intros; omega
 | v :: r, k, o, c, j => by
  rw [List.zipIdx_cons, List.foldl_cons, zso r (k + 1) o _ j]
  simp only [Array.size_setIfInBounds, Array.getElem?_setIfInBounds, List.length_cons]
  by_cases h1 : o + (k + 1) ≤ j ∧ j < o + (k + 1) + r.length ∧ j < c.size
  ·
   rw [if_pos h1, if_pos (by omega), show j - (o + k) = (j - (o + (k + 1))) + 1 by omega]
   simp
  ·
   rw [if_neg h1]
   by_cases h2 : o + k = j
   ·
    subst h2
    by_cases h3 : o + k < c.size
    ·
     rw [if_pos rfl, if_pos h3, if_pos (by omega)]; simp
    ·
     rw [if_pos rfl, if_neg h3, if_neg (by omega), Array.getElem?_eq_none (by omega)]
   ·
    rw [if_neg h2, if_neg (by omega)]
theorem yei (c : Array Value) (o : Nat) (r : Array Value) (h : o + r.size ≤ c.size) : (r.zipIdx.foldl (fun cs (p : Value × Nat) => cs.setIfInBounds (o + p.2) p.1) c) = zb3 c o r := by
 have e : (r.zipIdx.foldl (fun cs (p : Value × Nat) => cs.setIfInBounds (o + p.2) p.1) c) = ((r.toList.zipIdx 0).foldl (fun c (p : Value × Nat) => c.setIfInBounds (o + p.2) p.1) c) := by
  rw [← Array.foldl_toList, Array.toList_zipIdx]
 rw [e]
 apply Array.ext_getElem?
 intro j
 rw [zso, zkl h]
 by_cases hj : o ≤ j ∧ j < o + r.size
 ·
  rw [if_pos (by simp; omega), if_pos hj]; simp
 ·
  rw [if_neg (by simp; omega), if_neg hj]
theorem z56 (place : Nat → Option (Nat × Nat)) (c : Array Value) (i : Nat) (v : Value) (rest : List (Nat × Value)) (off size : Nat) (hp : place i = some (off, size)) (hs : v.cells.size = size) (hf : off + size ≤ c.size) : Instr.fill place c ((i, v) :: rest) = Instr.fill place (zb3 c off v.cells) rest := by
 rw [Instr.fill]
 simp only [hp]
 rw [if_neg (by simp; omega)]
 congr 1
 exact yei c off v.cells (by omega)
section
variable {w : World} {g : Nat} {c : Array Value} {t : TypeId} {fr : Nat × Nat}
theorem yhw {x z : List Value} {o n : Nat} {r : Array Value} (hg : w.heap[g]? = some (.cells c t fr)) (hc : c.toList = x ++ (r.toList ++ z)) (hx : x.length = o) (hr : r.size = n) : ldA w (.pointer (some ⟨g, o, none⟩)) n = some r := by
 refine zsw hr fun j v hv => ?_
 rw [cell_of_row _ _ (o + j) c t _ hg]
 have hj : j < r.toList.length := (List.getElem?_eq_some_iff.1 hv).1
 rw [← Array.getElem?_toList, hc, List.getElem?_append_right (by omega), show o + j - x.length = j by omega, List.getElem?_append_left hj]
 exact hv
theorem zpa {x z : List Value} {o : Nat} {v : Value} (hg : w.heap[g]? = some (.cells c t fr)) (hc : c.toList = x ++ (v :: z)) (hx : x.length = o) : w.cell? ⟨g, o, none⟩ = some v := by
 rw [cell_of_row _ _ o c t _ hg, ← Array.getElem?_toList, hc, List.getElem?_append_right (by omega), show o - x.length = 0 by omega]
 rfl
theorem z41 {x z : List Value} {o : Nat} {r : Rt} (hg : w.heap[g]? = some (.cells c t fr)) (hc : c.toList = x ++ ((rc r).toList ++ z)) (hx : x.length = o) : SlB w (.slice (some ⟨g, o, none⟩) 32 32) r.toList := by
 refine ⟨some ⟨g, o, none⟩, 32, by rw [zde], by rw [zde]; omega, .inr ⟨g, o, rfl, (Array.getElem?_eq_some_iff.1 hg).1, fun i hi => ?_⟩⟩
 rw [zde] at hi
 have h := yhw hg hc hx (zal r)
 have := (zp1 h).2 i _ (by rw [Array.getElem?_toList]; exact z3w r i hi)
 rw [this, ya9]
theorem z4k {o n : Nat} (hg : w.heap[g]? = some (.cells c t (0, 0))) (h : o + n ≤ c.size) : wrA w (.pointer (some ⟨g, o, none⟩)) n = true := by
 rw [zc8]
 intro j hj
 rw [cell_of_row _ _ (o + j) c t _ hg, frozen_of_row _ _ (o + j) c t hg]
 exact ⟨by rw [Array.getElem?_eq_getElem (by omega)]; rfl, rfl⟩
theorem zd5 (hg : w.heap[g]? = some (.cells c t (0, 0))) (o : Nat) (v : Value) : (w.setCell ⟨g, o, none⟩ v).heap[g]? = some (.cells (c.setIfInBounds o v) t (0, 0)) := by
 rw [setCell_eq_setRow w g o c t (0, 0) v hg]
 exact setRow_heap w g c _ t _ hg
theorem zf0 : ∀ (vs : List Value) (o : Nat) (w : World) (c : Array Value), w.heap[g]? = some (.cells c t (0, 0)) → (w.setCells g o vs).heap[g]? = some (.cells ((vs.zipIdx o).foldl (fun c p => c.setIfInBounds p.2 p.1) c) t (0, 0))
 | [], _, _, _, hg => hg
 | v :: r, o, w, c, hg => by
  rw [World.setCells, zf0 r (o + 1) _ _ (zd5 hg o v)]
  rfl
theorem zjz {o : Nat} {r : Array Value} (hg : w.heap[g]? = some (.cells c t (0, 0))) (h : o + r.size ≤ c.size) : (stA w (.pointer (some ⟨g, o, none⟩)) (.agg r)).heap[g]? = some (.cells (zb3 c o r) t (0, 0)) := by
 show (w.setCells g o r.toList).heap[g]? = _
 rw [zf0 r.toList o w c hg]
 congr 2
 apply Array.ext_getElem?
 intro j
 rw [zg8, zkl h]
 by_cases hj : o ≤ j ∧ j < o + r.size
 ·
  rw [if_pos (by simp; omega), if_pos hj]; simp
 ·
  rw [if_neg (by simp; omega), if_neg hj]
theorem zgf {o : Nat} {v : Value} (h : o < c.size) : c.setIfInBounds o v = zb3 c o #[v] := by
 apply Array.ext_getElem?
 intro j
 rw [zkl (by simp; omega), Array.getElem?_setIfInBounds]
 by_cases hj : o = j
 ·
  subst hj; rw [if_pos rfl, if_pos h, if_pos (by simp)]; simp
 ·
  rw [if_neg hj, if_neg (by simp; omega)]
end
def numO (n : UInt64) : Value := .int .u64 (n.toNat : Int)
attribute [local go_sem] numO
def ccO (x : CkO) : Array Value := (numO x.epoch :: (rc x.root).toList).toArray
def bcO (b : BlkO) : Array Value := ((rc b.root).toList ++ ((rc b.parent).toList ++ [numO b.slot, numO b.just])).toArray
def acO (a : AtO) : Array Value := (.int .i64 a.val :: numO a.slot :: ((rc a.head).toList ++ ((ccO a.source).toList ++ (ccO a.target).toList))).toArray
theorem zdl (r : Rt) : (rc r).toList.length = 32 := by rw [Array.length_toList, zal]
theorem zcv (x : CkO) : (ccO x).size = 33 := by simp [ccO, zal]
theorem zeb (b : BlkO) : (bcO b).size = 66 := by simp [bcO, zal]
theorem zcq (a : AtO) : (acO a).size = 100 := by simp [acO, zal, zcv]
attribute [local go_sem] zcv zeb zcq
theorem yb5 (x : CkO) : (ccO x).toList.length = 33 := by rw [Array.length_toList, zcv]
theorem zo0 (x : CkO) : (ccO x).toList = numO x.epoch :: (rc x.root).toList := rfl
theorem zfl (b : BlkO) : (bcO b).toList = (rc b.root).toList ++ ((rc b.parent).toList ++ [numO b.slot, numO b.just]) := rfl
theorem zhn (a : AtO) : (acO a).toList = .int .i64 a.val :: numO a.slot :: ((rc a.head).toList ++ ((ccO a.source).toList ++ (ccO a.target).toList)) := rfl
theorem zuf {l : List Value} (h : ∀ v ∈ l, v.oneCell' = true) : l.toArray.all (·.oneCell') = true := by
 rw [Array.all_eq_true_iff_forall_mem]
 intro v hv
 exact h v (by simpa using hv)
theorem zug (x : CkO) : ∀ v ∈ (ccO x).toList, v.oneCell' = true := by
 intro v hv
 rw [zo0] at hv
 rcases List.mem_cons.1 hv with rfl | hv
 ·
  rfl
 ·
  exact zfz _ v hv
theorem yhb (b : BlkO) : ∀ v ∈ (bcO b).toList, v.oneCell' = true := by
 intro v hv
 rw [zfl, List.mem_append, List.mem_append] at hv
 rcases hv with hv | hv | hv
 ·
  exact zfz _ v hv
 ·
  exact zfz _ v hv
 ·
  simp at hv
  rcases hv with rfl | rfl <;> rfl
theorem ye9 (a : AtO) : ∀ v ∈ (acO a).toList, v.oneCell' = true := by
 intro v hv
 rw [zhn] at hv
 simp only [List.mem_cons, List.mem_append] at hv
 rcases hv with rfl | rfl | hv | hv | hv
 ·
  rfl
 ·
  rfl
 ·
  exact zfz _ v hv
 ·
  exact zug _ v hv
 ·
  exact zug _ v hv
@[local go_sem] theorem ytl (x : CkO) : okA 33 (.agg (ccO x)) = true := by
 show ((ccO x).size == 33 && (ccO x).all (·.oneCell')) = true
 rw [show (ccO x).all (·.oneCell') = true from zuf (zug x), zcv]; rfl
@[local go_sem] theorem yts (b : BlkO) : okA 66 (.agg (bcO b)) = true := by
 show ((bcO b).size == 66 && (bcO b).all (·.oneCell')) = true
 rw [show (bcO b).all (·.oneCell') = true from zuf (yhb b), zeb]; rfl
@[local go_sem] theorem ys5 (a : AtO) : okA 100 (.agg (acO a)) = true := by
 show ((acO a).size == 100 && (acO a).all (·.oneCell')) = true
 rw [show (acO a).all (·.oneCell') = true from zuf (ye9 a), zcq]; rfl
@[local go_sem ↓ high] theorem yls (ρ : Operand → Value) (dst : Option Tmp) (x : Operand) (ty : TypeId) (pos : String) (after : Array Edge) (guard : Option (Nat × Bool)) (w : World) :
  (execOp ρ { dst, op := .load 37 x, type := ty, pos, after, guard }).run Tryz.prog w = zh7 (ldA w (ρ x) 33) w (za4 Tryz.prog ρ { dst, op := .load 37 x, type := ty, pos, after, guard } w) :=
 zbh Tryz.isAgg37 Tryz.sizeOf37 ρ dst x ty pos after guard w
@[local go_sem ↓ high] theorem yj5 (ρ : Operand → Value) (dst : Option Tmp) (x y : Operand) (ty : TypeId) (pos : String) (after : Array Edge) (guard : Option (Nat × Bool)) (w : World) :
  (execOp ρ { dst, op := .store 37 x y, type := ty, pos, after, guard }).run Tryz.prog w = zh8 (wrA w (ρ x) 33 && okA 33 (ρ y)) (stA w (ρ x) (ρ y)) (za4 Tryz.prog ρ { dst, op := .store 37 x y, type := ty, pos, after, guard } w) :=
 za7 Tryz.sizeOf37 ρ dst x y ty pos after guard w
@[local go_sem ↓ high] theorem yom (ρ : Operand → Value) (dst : Option Tmp) (x : Operand) (ty : TypeId) (pos : String) (after : Array Edge) (guard : Option (Nat × Bool)) (w : World) :
  (execOp ρ { dst, op := .load 69 x, type := ty, pos, after, guard }).run Tryz.prog w = zh7 (ldA w (ρ x) 66) w (za4 Tryz.prog ρ { dst, op := .load 69 x, type := ty, pos, after, guard } w) :=
 zbh Tryz.isAgg69 Tryz.sizeOf69 ρ dst x ty pos after guard w
@[local go_sem ↓ high] theorem yj2 (ρ : Operand → Value) (dst : Option Tmp) (x y : Operand) (ty : TypeId) (pos : String) (after : Array Edge) (guard : Option (Nat × Bool)) (w : World) :
  (execOp ρ { dst, op := .store 69 x y, type := ty, pos, after, guard }).run Tryz.prog w = zh8 (wrA w (ρ x) 66 && okA 66 (ρ y)) (stA w (ρ x) (ρ y)) (za4 Tryz.prog ρ { dst, op := .store 69 x y, type := ty, pos, after, guard } w) :=
 za7 Tryz.sizeOf69 ρ dst x y ty pos after guard w
@[local go_sem ↓ high] theorem ypl (ρ : Operand → Value) (dst : Option Tmp) (x : Operand) (ty : TypeId) (pos : String) (after : Array Edge) (guard : Option (Nat × Bool)) (w : World) :
  (execOp ρ { dst, op := .load 62 x, type := ty, pos, after, guard }).run Tryz.prog w = zh7 (ldA w (ρ x) 100) w (za4 Tryz.prog ρ { dst, op := .load 62 x, type := ty, pos, after, guard } w) :=
 zbh Tryz.isAgg62 Tryz.sizeOf62 ρ dst x ty pos after guard w
@[local go_sem ↓ high] theorem yoz (ρ : Operand → Value) (dst : Option Tmp) (x y : Operand) (ty : TypeId) (pos : String) (after : Array Edge) (guard : Option (Nat × Bool)) (w : World) :
  (execOp ρ { dst, op := .store 62 x y, type := ty, pos, after, guard }).run Tryz.prog w = zh8 (wrA w (ρ x) 100 && okA 100 (ρ y)) (stA w (ρ x) (ρ y)) (za4 Tryz.prog ρ { dst, op := .store 62 x y, type := ty, pos, after, guard } w) :=
 za7 Tryz.sizeOf62 ρ dst x y ty pos after guard w
theorem z2p (w : World) : (zeroValue 37).run Tryz.prog w = .ok (.agg (ccO zcO)) w := by kernel_rfl
theorem zqs (w : World) : (zeroValue 69).run Tryz.prog w = .ok (.agg (bcO zbO)) w := by kernel_rfl
theorem zrw (w : World) : (zeroValue 62).run Tryz.prog w = .ok (.agg (acO zaO)) w := by kernel_rfl
@[local go_sem ↓ high] theorem yko (ρ : Operand → Value) (dst : Option Tmp) (ty : TypeId) (pos : String) (after : Array Edge) (guard : Option (Nat × Bool)) (w : World) :
  (execOp ρ { dst, op := .alloc 37, type := ty, pos, after, guard }).run Tryz.prog w = .ok (.value (.pointer (some ⟨w.heap.size, 0, none⟩))) (w.alloc (.cells (ccO zcO) 37)) := by
 unfold execOp
 simp only [Instr.alloc, Sem.run_bind, z2p, Result.andThen_ok]
 rfl
@[local go_sem ↓ high] theorem ykb (ρ : Operand → Value) (dst : Option Tmp) (ty : TypeId) (pos : String) (after : Array Edge) (guard : Option (Nat × Bool)) (w : World) :
  (execOp ρ { dst, op := .alloc 69, type := ty, pos, after, guard }).run Tryz.prog w = .ok (.value (.pointer (some ⟨w.heap.size, 0, none⟩))) (w.alloc (.cells (bcO zbO) 69)) := by
 unfold execOp
 simp only [Instr.alloc, Sem.run_bind, zqs, Result.andThen_ok]
 rfl
@[local go_sem ↓ high] theorem yo6 (ρ : Operand → Value) (dst : Option Tmp) (ty : TypeId) (pos : String) (after : Array Edge) (guard : Option (Nat × Bool)) (w : World) :
  (execOp ρ { dst, op := .alloc 62, type := ty, pos, after, guard }).run Tryz.prog w = .ok (.value (.pointer (some ⟨w.heap.size, 0, none⟩))) (w.alloc (.cells (acO zaO) 62)) := by
 unfold execOp
 simp only [Instr.alloc, Sem.run_bind, zrw, Result.andThen_ok]
 rfl
theorem z4z (b : BlkO) (r : Rt) : zb3 (bcO b) 0 (rc r) = bcO { b with root := r } :=
 zb5 (x := []) (zfl b) rfl (by rw [zdl, zal])
theorem zs4 (b : BlkO) (r : Rt) : zb3 (bcO b) 32 (rc r) = bcO { b with parent := r } :=
 zb5 (x := (rc b.root).toList) (zfl b) (zdl _) (by rw [zdl, zal])
theorem yjm (b : BlkO) (n : UInt64) : zb3 (bcO b) 64 #[numO n] = bcO { b with slot := n } := by
 rw [zb5 (c := bcO b) (r := #[numO n]) (x := (rc b.root).toList ++ (rc b.parent).toList) (y := [numO b.slot]) (z := [numO b.just]) (by rw [zfl]; simp) (by rw [List.length_append, zdl, zdl]) rfl]
 simp [bcO]
theorem yf0 (b : BlkO) (n : UInt64) : zb3 (bcO b) 65 #[numO n] = bcO { b with just := n } := by
 rw [zb5 (c := bcO b) (r := #[numO n]) (x := (rc b.root).toList ++ ((rc b.parent).toList ++ [numO b.slot])) (y := [numO b.just]) (z := []) (by rw [zfl]; simp) (by rw [List.length_append, List.length_append, zdl, zdl]; rfl) rfl]
 simp [bcO]
theorem yd1 (x : CkO) (n : UInt64) : zb3 (ccO x) 0 #[numO n] = ccO { x with epoch := n } :=
 zb5 (x := []) (y := [numO x.epoch]) (zo0 x) rfl rfl
theorem z3m (x : CkO) (r : Rt) : zb3 (ccO x) 1 (rc r) = ccO { x with root := r } := by
 rw [zb5 (c := ccO x) (o := 1) (r := rc r) (x := [numO x.epoch]) (y := (rc x.root).toList) (z := []) (by rw [zo0]; simp) rfl (by rw [zdl, zal])]
 simp [ccO]
theorem yl1 (a : AtO) (n : Int) : zb3 (acO a) 0 #[.int .i64 n] = acO { a with val := n } :=
 zb5 (x := []) (y := [.int .i64 a.val]) (zhn a) rfl rfl
theorem yfw (a : AtO) (n : UInt64) : zb3 (acO a) 1 #[numO n] = acO { a with slot := n } :=
 zb5 (x := [.int .i64 a.val]) (y := [numO a.slot]) (zhn a) rfl rfl
theorem z32 (a : AtO) (r : Rt) : zb3 (acO a) 2 (rc r) = acO { a with head := r } :=
 zb5 (x := [.int .i64 a.val, numO a.slot]) (zhn a) rfl (by rw [zdl, zal])
theorem ztm (a : AtO) (x : CkO) : zb3 (acO a) 34 (ccO x) = acO { a with source := x } := by
 rw [zb5 (c := acO a) (x := .int .i64 a.val :: numO a.slot :: (rc a.head).toList) (y := (ccO a.source).toList) (z := (ccO a.target).toList) (by rw [zhn]; simp) (by simp [zal]) (by rw [yb5, zcv])]
 simp [acO]
theorem zto (a : AtO) (x : CkO) : zb3 (acO a) 67 (ccO x) = acO { a with target := x } := by
 rw [zb5 (c := acO a) (x := .int .i64 a.val :: numO a.slot :: ((rc a.head).toList ++ (ccO a.source).toList)) (y := (ccO a.target).toList) (z := []) (by rw [zhn]; simp) (by simp [zal, zcv]) (by rw [yb5, zcv])]
 simp [acO]
section
variable {w : World} {g : Nat} {t : TypeId} {fr : Nat × Nat}
theorem z9z {b : BlkO} (hg : w.heap[g]? = some (.cells (bcO b) t fr)) : SlB w (.slice (some ⟨g, 0, none⟩) 32 32) b.root.toList := z41 (x := []) hg (zfl b) rfl
theorem z1e {b : BlkO} (hg : w.heap[g]? = some (.cells (bcO b) t fr)) : SlB w (.slice (some ⟨g, 32, none⟩) 32 32) b.parent.toList := z41 hg (zfl b) (zdl _)
theorem zxb {b : BlkO} (hg : w.heap[g]? = some (.cells (bcO b) t fr)) : w.cell? ⟨g, 64, none⟩ = some (numO b.slot) :=
 zpa (x := (rc b.root).toList ++ (rc b.parent).toList) hg (by rw [zfl]; simp; rfl) (by rw [List.length_append, zdl, zdl])
theorem zyj {b : BlkO} (hg : w.heap[g]? = some (.cells (bcO b) t fr)) : w.cell? ⟨g, 65, none⟩ = some (numO b.just) :=
 zpa (x := (rc b.root).toList ++ ((rc b.parent).toList ++ [numO b.slot])) (z := []) hg (by rw [zfl]; simp) (by rw [List.length_append, List.length_append, zdl, zdl]; rfl)
theorem ycc {x : CkO} (hg : w.heap[g]? = some (.cells (ccO x) t fr)) : w.cell? ⟨g, 0, none⟩ = some (numO x.epoch) := zpa (x := []) hg (zo0 x) rfl
theorem ybw {a : AtO} (hg : w.heap[g]? = some (.cells (acO a) t fr)) : w.cell? ⟨g, 1, none⟩ = some (numO a.slot) := zpa (x := [.int .i64 a.val]) hg (zhn a) rfl
end
attribute [irreducible] bcO acO ccO
def zjs (ns : List UInt64) : List UInt8 := ns.flatMap zfg
theorem z5z (ns : List UInt64) (j : Nat) (h : j < ns.length) : zjs (ns.take (j + 1)) = zjs (ns.take j) ++ zfg ns[j] := by
 rw [List.take_succ_eq_append_getElem h, zjs, List.flatMap_append]; simp [zjs]
theorem zy5 (ns : List UInt64) : (zjs ns).length = 8 * ns.length := by
 induction ns with
 | nil => rfl
 | cons a l ih => rw [zjs, List.flatMap_cons, List.length_append, ← zjs, ih, zic, List.length_cons]; omega
theorem z7d (n : UInt64) (m : Nat) (h : m < 8) : (zfg n).take (m + 1) = (zfg n).take m ++ [UInt8.ofNat (n.toNat / 256 ^ (7 - m) % 256)] := by
 have hl : m < (zfg n).length := by rw [zic]; exact h
 rw [List.take_succ_eq_append_getElem hl]
 congr 2
 have := z5d 8 n.toNat m h
 rw [← zfg] at this
 unfold bt at this
 rw [zc0 _ hl] at this
 have e : (zfg n)[m].toNat = n.toNat / 256 ^ (7 - m) % 256 := by
  have h2 : (((zfg n)[m]).toNat : Int) = ((n.toNat / 256 ^ (8 - 1 - m) % 256 : Nat) : Int) := this
  have h3 : (8 - 1 - m) = 7 - m := by omega
  rw [h3] at h2
  omega
 rw [← e, UInt8.ofNat_toNat]
theorem zry (base : Nat) (v : Value) (k : List UInt8) (b cap : Nat) (ns : List UInt64) (w : World) (hown : Own w base v k) (hbase : base ≤ w.heap.size) (hlen : k.length + 8 * ns.length ≤ 1000000)
  (hb : b < w.heap.size) (hne : v.ownBlock ≠ some b) (hc : ∀ i (h : i < ns.length), w.cell? ⟨b, i, none⟩ = some (numO ns[i])) :
  Calls Tryz.prog 69 #[v, .slice (some ⟨b, 0, none⟩) ns.length cap] w fun e w' => ∃ v', e = .returned v' ∧ Own w' base v' (k ++ zjs ns) ∧ Grw w v w' v' := by
 have HO := Lib.hid hown
 have HC := Lib.hid hc
 have HN := Lib.hid hne
 clear hown hc hne
 go_enter Tryz.func69, Tryz.ntmps69
 go_wp2_with fail
 go_loopw [0, 10] (fun v1 i wr => ∃ j : Nat, j ≤ ns.length ∧ i = .int .i64 j ∧ Own wr base v1 (k ++ zjs (ns.take j)) ∧ Grw w v wr v1) (fun _ i _ => ns.length - (intOf i).toNat)
 case atStart => exact ⟨0, Nat.zero_le _, rfl, by simpa [zjs] using HO.out, Grw.refl _ _⟩
 case round =>
  obtain ⟨j, hj, rfl, ho, hg⟩ := hrel
  have HO1 := Lib.hid ho
  have HG1 := Lib.hid hg
  clear ho hg
  by_cases hlt : j < ns.length
  ·
   have i0 : (0 : Int) ≤ (j : Int) := by omega
   have i1 : (j : Int) < (ns.length : Int) := by omega
   have hcell : wr.cell? ⟨b, j, none⟩ = some (numO ns[j]) := (World.cell?_of_block (a := ⟨b, j, none⟩) (HG1.out.block hb HN.out)).trans (HC.out j hlt)
   obtain ⟨wo, rfl⟩ : ∃ wo : World, wo = wr := ⟨_, rfl⟩
   go_wp2_with fail
   go_loopw [0, 7] (fun v2 sh wr => ∃ m : Nat, m ≤ 8 ∧ sh = .int .i64 (56 - 8 * (m : Int)) ∧ Own wr base v2 (k ++ zjs (ns.take j) ++ (zfg ns[j]).take m) ∧ Grw w v wr v2) (fun _ sh _ => (intOf sh + 8).toNat)
   case atStart => exact ⟨0, by omega, rfl, by simpa using HO1.out, HG1.out⟩
   case round =>
    obtain ⟨m, hm, rfl, ho2, hg2⟩ := hrel
    have HO2 := Lib.hid ho2
    have HG2 := Lib.hid hg2
    clear ho2 hg2
    by_cases hlt8 : m < 8
    ·
     have s0 : (0 : Int) ≤ 56 - 8 * (m : Int) := by omega
     have s1 : 56 - 8 * (m : Int) < 64 := by omega
     have HX : Hid (((ns[j].toNat : Nat) : Int) / 2 ^ (56 - 8 * m) % 256 = ((UInt8.ofNat (ns[j].toNat / 256 ^ (7 - m) % 256)).toNat : Int)) := by
      show _ = _
      rw [UInt8.toNat_ofNat', Nat.mod_eq_of_lt (show ns[j].toNat / 256 ^ (7 - m) % 256 < 2 ^ 8 by omega)]
      rw [show (256 : Nat) ^ (7 - m) = 2 ^ (56 - 8 * m) by rw [show (256 : Nat) = 2 ^ 8 from rfl, ← Nat.pow_mul]; congr 1; omega]
      simp
     have HL : Hid ((k ++ zjs (ns.take j) ++ (zfg ns[j]).take m).length + 1 ≤ 140737488355328) := by
      show _ ≤ _
      rw [List.length_append, List.length_append, zy5, List.length_take, List.length_take]
      omega
     have HT := Lib.hid (z7d ns[j] m hlt8)
     have HB := Lib.hid (Nat.le_trans hbase HG2.out.1.size)
     go_wp2_with (at_builtin; refine zcz _ rfl _ _ rfl base u0 _ rfl (zqi HO2.out _) _ [UInt8.ofNat (ns[j].toNat / 256 ^ (7 - m) % 256)] rfl (z9k _ _ _ _ _ rfl (yn6 _ _ HX.out)) HL.out (by have := HB.out; simp; omega) ?_; intro v3 w3 ho3 hg3)
     go_roundw
     case rel => exact ⟨m + 1, by omega, by go_num, by rw [HT.out, ← List.append_assoc]; exact ho3, HG2.out.trans hg3.alloc⟩
     case measure => simp [intOf]; omega
    ·
     obtain rfl : m = 8 := by omega
     have HE : Hid (k ++ zjs (ns.take j) ++ (zfg ns[j]).take 8 = k ++ zjs (ns.take (j + 1))) := by
      show _ = _
      rw [z5z ns j hlt, show (zfg ns[j]).take 8 = zfg ns[j] from List.take_of_length_le (by rw [zic]; omega), List.append_assoc]
     go_wp2_with fail
     go_roundw
     case rel => exact ⟨j + 1, by omega, by go_num, by rw [← HE.out]; exact HO2.out, HG2.out⟩
     case measure => simp [intOf]; omega
  ·
   obtain rfl : j = ns.length := by omega
   go_wp2_with fail
   go_ret
   exact ⟨_, rfl, by have := HO1.out; rwa [List.take_length] at this, HG1.out⟩
theorem yeu (w : World) (ns : List UInt64) (c : Array Value) (t : TypeId) (b : Nat) (hb : b = w.heap.size) (hc : c = (ns.map numO).toArray) : ∀ i (h : i < ns.length), (w.alloc (.cells c t)).cell? ⟨b, i, none⟩ = some (numO ns[i]) := fun i h => by
 subst hb hc
 rw [cell_of_row _ _ i _ _ _ (heap_alloc_last w _), List.getElem?_toArray, List.getElem?_map, List.getElem?_eq_getElem h]
 rfl
theorem ybn (n m : UInt64) : zjs [n, m] = zfg n ++ zfg m := by simp [zjs]
theorem zh5 {w : World} {o ob : Obj} {g : Nat} (h : w.heap[g]? = some ob) : (w.alloc o).heap[g]? = some ob := by
 rw [Below.heap_alloc w o g (Array.getElem?_eq_some_iff.1 h).1]; exact h
theorem Grw.heap {w w' : World} {v v' : Value} (h : Grw w v w' v') {g : Nat} {ob : Obj} (hg : w.heap[g]? = some ob) (hne : v.ownBlock ≠ some g) : w'.heap[g]? = some ob := by
 rw [h.block (Array.getElem?_eq_some_iff.1 hg).1 hne]; exact hg
theorem zu3 (x : BlkO) (w : World) :
  Calls Tryz.prog 30 #[.agg (bcO x)] w fun e w' => ∃ v, e = .returned v ∧ Own w' w.heap.size v (z5s x) ∧ Below w.heap.size w w' := by
 have hmk : ∀ w : World, (Instr.makeSlice 46 (.int .i64 0) (.int .i64 81)).run Tryz.prog w = .ok (.slice (some ⟨w.heap.size, 0, none⟩) 0 81) (w.alloc (.cells (Array.replicate 81 (.int .u8 0)) 5)) := fun _ => by kernel_rfl
 obtain ⟨Z, hZ⟩ : ∃ Z : Array Value, Z = Array.replicate 81 (.int .u8 0) := ⟨_, rfl⟩
 rw [← hZ] at hmk
 have HZ : Hid (Z.size = 81) := by show _ = _; rw [hZ]; simp
 clear hZ
 have HO1 : Hid (Own (((w.alloc (.cells (bcO x) 69)).alloc (.cells Z 5)).alloc (.cells #[.int .u8 1] 5)) (w.heap.size + 1) (.slice (some ⟨w.heap.size + 1, 0, none⟩) 0 81) []) := zqi (yhd _ 81 (by unfold maxLen; omega) Z HZ.out _ (by simp)) _
 have HS1 : Hid (SlB (((w.alloc (.cells (bcO x) 69)).alloc (.cells Z 5)).alloc (.cells #[.int .u8 1] 5)) (.slice (some ⟨w.heap.size + 1 + 1, 0, none⟩) 1 1) [1]) := z9k _ [1] _ _ _ (by simp) rfl
 go_enter Tryz.func30, Tryz.ntmps30
 go_wp2_with (at_builtin; first
  | (
    refine zcz _ rfl (.tmp 5) (.tmp 6) rfl (w.heap.size + 1) _ [] rfl HO1.out _ [1] rfl HS1.out (by simp) (by simp) ?_; intro v2 w2 ho2 hg2
    have HO2 := Lib.hid ho2; clear ho2
    have HG2 := Lib.hid hg2; clear hg2
    have HB2 : Hid (w2.heap[w.heap.size]? = some (.cells (bcO x) 69 (0, 0))) := HG2.out.heap (zh5 (zh5 (heap_alloc_last w _))) (by show some (w.heap.size + 1) ≠ some w.heap.size; intro e; injection e; omega)
    have HS2 : Hid (w.heap.size + 1 ≤ w2.heap.size) := by have := HG2.out.1.size; simp at this; show _ ≤ _; omega)
  | (
    refine zcz _ rfl (.tmp 8) (.tmp 10) rfl (w.heap.size + 1) _ _ rfl HO2.out _ x.root.toList rfl (z9z HB2.out) (by rw [zde]; simp) HS2.out ?_; intro v3 w3 ho3 hg3
    have HO3 := Lib.hid ho3; clear ho3
    have HG3 := Lib.hid hg3; clear hg3
    have HB3 : Hid (w3.heap[w.heap.size]? = some (.cells (bcO x) 69 (0, 0))) := HG3.out.heap HB2.out (fun e => by have := (World.ownsRow.lt HO2.out _ e).1; omega)
    have HS3 : Hid (w.heap.size + 1 ≤ w3.heap.size) := Nat.le_trans HS2.out HG3.out.1.size)
  | (
    refine zcz _ rfl (.tmp 12) (.tmp 14) rfl (w.heap.size + 1) _ _ rfl HO3.out _ x.parent.toList rfl (z1e HB3.out) (by rw [List.length_append, zde, zde]; simp) HS3.out ?_; intro v4 w4 ho4 hg4
    have HO4 := Lib.hid ho4; clear ho4
    have HG4 := Lib.hid hg4; clear hg4
    have HB4 : Hid (w4.heap[w.heap.size]? = some (.cells (bcO x) 69 (0, 0))) := HG4.out.heap HB3.out (fun e => by have := (World.ownsRow.lt HO3.out _ e).1; omega)
    have HS4 : Hid (w.heap.size + 1 ≤ w4.heap.size) := Nat.le_trans HS3.out HG4.out.1.size
    have hc4 := zxb HB4.out
    have hd4 := zyj HB4.out))
 refine (zry (w.heap.size + 1) v4 _ w4.heap.size 2 [x.slot, x.just] _ (zqi HO4.out _) (by have := HS4.out; simp; omega) (by rw [List.length_append, List.length_append, zde, zde]; simp) (by simp) (yqk HO4.out (Nat.le_refl _)) (yeu _ _ _ _ _ rfl rfl)).mono ?_
 rintro e w5 ⟨v5, rfl, ho5, hg5⟩
 have HO5 := Lib.hid ho5
 have HG5 := Lib.hid hg5
 clear ho5 hg5 hc4 hd4
 go_wp2_with fail
 go_ret
 refine ⟨_, rfl, ?_, ?_⟩
 ·
  have h := yg1 HO5.out (Nat.le_succ _)
  rw [ybn] at h
  have e : [] ++ [1] ++ x.root.toList ++ x.parent.toList ++ (zfg x.slot ++ zfg x.just) = z5s x := by simp [z5s]
  rwa [e] at h
 ·
  have b1 := ((((Below.refl w.heap.size w).alloc (Nat.le_refl _) (.cells (bcO x) 69)).alloc (by simp) (.cells Z 5)).alloc (by simp; omega) (.cells #[.int .u8 1] 5))
  have b2 := b1.trans ((HG2.out.own HO1.out (by simp)).mono (Nat.le_succ _))
  have b3 := b2.trans ((HG3.out.own HO2.out HS2.out).mono (Nat.le_succ _))
  have b4 := b3.trans ((HG4.out.own HO3.out HS3.out).mono (Nat.le_succ _))
  exact b4.trans ((HG5.out.alloc.own HO4.out HS4.out).mono (Nat.le_succ _))
theorem zus (x : BlkO) (w : World) :
  Calls Tryz.prog 30 #[.agg (bcO x)] w fun e w' => ∃ v, e = .returned v ∧ SlB w' v (z5s x) ∧ Below w.heap.size w w' :=
 (zu3 x w).mono fun _ _ ⟨v, h1, h2, h3⟩ => ⟨v, h1, yl8 h2, h3⟩
section
variable {P : Program}
theorem zdf {T : TypeId} {n : Nat} (hA : ∀ w, (isAgg T).run P w = .ok true w) (hS : ∀ w, (Go.sizeOf T).run P w = .ok n w) (fn : Func) (d e : Nat) (h : fn.results = #[.cell d T, .tmp e]) (tmps : Array Value) (w : World) (b : Nat) (c : Array Value) (v : Value) (hp : tmps.getD d undef = .pointer (some ⟨b, 0, none⟩)) (hv : tmps.getD e undef = v) (hl : ldA w (.pointer (some ⟨b, 0, none⟩)) n = some c) :
  (results fn tmps).run P w = .ok (.tuple #[.agg c, v]) w := by
 have hp' : tmps[d]?.getD undef = .pointer (some ⟨b, 0, none⟩) := by simpa using hp
 have hv' : tmps[e]?.getD undef = v := by simpa using hv
 simp [results, h, hp', hv', asAddr, zc9 hA hS w b 0 c hl]
end
def zkj (l : List UInt8) (tag n : Nat) : Bool := decide (l.length = n) && decide (bt l 0 = (tag : Int))
theorem zmf (v : Value) (l : List UInt8) (tag n : Nat) (hn : 0 < n) (w : World) (h : SlB w v l) :
  Calls Tryz.prog 136 #[v, .int .u8 (tag : Int), .int .i64 (n : Int)] w fun e w' => e = .returned (.bool (zkj l tag n)) ∧ w' = w := by
 obtain ⟨p, cap, rfl, hcap, hx⟩ := h
 have HH : Hid (zkj l tag n = (decide (l.length = n) && decide (bt l 0 = (tag : Int)))) := rfl
 generalize zkj l tag n = B at *
 by_cases hl : l.length = n
 ·
  obtain ⟨b, off, rfl, hb, hx⟩ := hx.resolve_left (fun e => by rw [e] at hl; simp at hl; omega)
  have hc := hx 0 (by omega)
  rw [Nat.add_zero] at hc
  have i1 : (0 : Int) < (l.length : Int) := by omega
  have e1 : ((l.length : Int) == (n : Int)) = true := by simp; omega
  have bb := z9d l 0
  have e2 : (bt l 0 == (tag : Int)) = decide (bt l 0 = (tag : Int)) := rfl
  have e3 : B = decide (bt l 0 = (tag : Int)) := by rw [HH.out]; simp [hl]
  have HE := Lib.hid e3; clear e3 hx hl HH
  go_enter Tryz.func136, Tryz.ntmps136
  go_wp2_with fail
  go_ret
  exact ⟨by rw [HE.out]; rfl, rfl⟩
 ·
  have e1 : ((l.length : Int) == (n : Int)) = false := by simp; omega
  have e3 : B = false := by rw [HH.out]; simp [hl]
  have HE := Lib.hid e3; clear e3 hx hl HH
  go_enter Tryz.func136, Tryz.ntmps136
  go_wp2_with fail
  go_ret
  exact ⟨by rw [HE.out]; rfl, rfl⟩
def z1j (x v : Value) (l l' : List UInt8) (w : World) (e : Ending) (w' : World) : Prop := ∃ vr, e = .returned (.tuple #[x, vr]) ∧ (∀ W, SlB W v l → SlB W vr l') ∧ Below w.heap.size w w'
theorem yel (b off len cap n : Nat) (h : n ≤ cap) (hn : 0 < n) : ydz (.slice (some ⟨b, off, none⟩) len cap) (.int .i64 (n : Int)) = some (.slice (some ⟨b, off, none⟩) n cap) := by
 show (if 0 ≤ (n : Int) ∧ (n : Int) ≤ (cap : Int) then some (sliced (some ⟨b, off, none⟩) 0 (n : Int).toNat cap 1) else none) = _
 rw [if_pos (by omega), Int.toNat_natCast]
 unfold sliced
 rw [if_neg (by omega)]
 simp [Addr.add]
theorem ygc (l : List UInt8) (k : Nat) (hk : k < l.length) (h8 : k < 8) : bits .or .u64 (IntKind.u64.wrap (((zdb (l.take k) : Nat) : Int) * 256)) (bt l k) = ((zdb (l.take (k + 1)) : Nat) : Int) := by
 have h1 := zyn (l.take k)
 have h2 : (l.take k).length ≤ 7 := by rw [List.length_take]; omega
 have h3 := Nat.pow_le_pow_right (show 0 < 256 by omega) h2
 have h4 : (256 : Nat) ^ 7 = 72057594037927936 := by decide
 have bb := z9d l k
 rw [z1t l k hk, wraps_u64 _ (by omega) (by omega)]
 have e : ((l[k].toNat : Nat) : Int) = bt l k := by unfold bt; rw [zc0 l hk]
 have hj := bits_join .u64 64 (by decide) wraps_u64 8 (((zdb (l.take k) : Nat) : Int) * 256) (bt l k) (by omega) (by omega) (by omega) (by omega) (by omega) (by omega)
 rw [hj]
 clear hj
 omega
theorem zd0 (v : Value) (l : List UInt8) (hl : 8 ≤ l.length) (w : World) (h : SlB w v l) :
  Calls Tryz.prog 138 #[v] w (z1j (numO (zdi l)) v l (l.drop 8) w) := by
 obtain ⟨b, off, cap, rfl, hcap, hb, hx⟩ := zws h (by omega)
 clear h
 have HX := Lib.hid hx; clear hx
 have hc8 : ydz (.slice (some ⟨b, off, none⟩) l.length cap) (.int .i64 8) = some (.slice (some ⟨b, off, none⟩) 8 cap) := yel b off l.length cap 8 (by omega) (by omega)
 obtain ⟨vr, hvr, hsr⟩ := zk4 (some ⟨b, off, none⟩) cap l 8 hl hcap
 have HR := Lib.hid hsr; clear hsr
 replace hvr : zw6 (.slice (some ⟨b, off, none⟩) l.length cap) (.int .i64 8) = some vr := hvr
 have HN : Hid (numO (zdi l) = .int .u64 ((zdb (l.take 8) : Nat) : Int)) := by show _ = _; rw [numO, zny]
 generalize numO (zdi l) = R at *
 go_enter Tryz.func138, Tryz.ntmps138
 go_wp2_with fail
 go_loopw [4, 10] (fun n i wr => ∃ k : Nat, k ≤ 8 ∧ i = .int .i64 k ∧ n = .int .u64 ((zdb (l.take k) : Nat) : Int) ∧ wr = w) (fun _ i _ => 8 - (intOf i).toNat)
 case atStart => exact ⟨0, by omega, rfl, rfl, rfl⟩
 case round =>
  obtain ⟨k, hk, rfl, rfl, rfl⟩ := hrel
  by_cases hlt : k < 8
  ·
   have i0 : (0 : Int) ≤ (k : Int) := by omega
   have i1 : (k : Int) < 8 := by omega
   have hc := HX.out k (by omega)
   have bb := z9d l k
   have HOR : Hid (bits .or .u64 (IntKind.u64.wrap (((zdb (l.take k) : Nat) : Int) * 256)) (bt l k) = ((zdb (l.take (k + 1)) : Nat) : Int)) := ygc l k (by omega) hlt
   go_wp2_with fail
   refine ⟨⟨k + 1, by omega, by go_num, by rw [HOR.out], trivial⟩, by simp [intOf]; omega⟩
  ·
   obtain rfl : k = 8 := by omega
   go_wp2_with fail
   go_quiet (fail)
   go_wp2_with fail
   go_ret2
   exact ⟨_, by rw [HN.out]; rfl, HR.out, zar (Below.refl _ _) _⟩
theorem zyz (r : Rt) (l : List UInt8) (h : 32 ≤ l.length) : (splice (rc r).toList 0 (b8 (l.take 32))).toArray = rc (zfi l) := by
 have hl : (b8 (l.take 32)).length = 32 := by rw [zif, List.length_take]; omega
 unfold splice
 rw [List.take_zero, List.nil_append, List.drop_of_length_le (by rw [hl, zdl]; omega), List.append_nil, ← zxv l h, ← ytc]
theorem zfe (v : Value) (l : List UInt8) (hl : 32 ≤ l.length) (w : World) (h : SlB w v l) :
  Calls Tryz.prog 137 #[v] w (z1j (.agg (rc (zfi l))) v l (l.drop 32) w) := by
 obtain ⟨b, off, cap, rfl, hcap, hb, hx⟩ := zws h (by omega)
 clear h
 have HX := Lib.hid hx; clear hx
 obtain ⟨vr, hvr, hsr⟩ := zk4 (some ⟨b, off, none⟩) cap l 32 hl hcap
 have HR := Lib.hid hsr; clear hsr
 replace hvr : zw6 (.slice (some ⟨b, off, none⟩) l.length cap) (.int .i64 32) = some vr := hvr
 have HG0 : Hid (((w.alloc (.cells (rc zr) 23)).alloc (.cells (rc zr) 23)).heap[w.heap.size + 1]? = some (.cells (rc zr).toList.toArray 23 (0, 0))) := heap_alloc2_new w _ _
 have HSRC : Hid (∀ j u, (b8 (l.take 32))[j]? = some u → ((w.alloc (.cells (rc zr) 23)).alloc (.cells (rc zr) 23)).cell? ((⟨b, off, none⟩ : Addr).add j) = some u) := by
  intro j u hu
  have hj : j < 32 := by
   have := (List.getElem?_eq_some_iff.1 hu).1
   rw [zif, List.length_take] at this
   omega
  rw [z4c _ j (by rw [List.length_take]; omega), yaj l 32 j hj] at hu
  rw [Addr.add_mid, World.cell?_alloc_lt _ _ _ (by simp; omega), World.cell?_alloc_lt _ _ _ hb, HX.out j (by omega)]
  exact hu
 have hlen : (b8 (l.take 32)).length = 32 := by rw [zif, List.length_take]; omega
 have HL := Lib.hid hlen
 clear hlen
 have HW : Hid (Below (w.heap.size + 1) (w.alloc (.cells (rc zr) 23)) ((w.alloc (.cells (rc zr) 23)).alloc (.cells (rc zr) 23))) := (Below.refl _ _).alloc (by simp) _
 go_enter Tryz.func137, Tryz.ntmps137
 go_wp2_with (
        refine wpList_copy_splice rfl (.tmp 6) (.tmp 7) 46 46 rfl 5 Tryz.underlying46 Tryz.sizeByte _ _ _ _ _ _ rfl rfl (w.heap.size + 1) 0 (rc zr).toList 23 HG0.out (b8 (l.take 32)) (by rw [HL.out]; show 32 = min l.length 32; omega) (fun _ => ⟨rfl, _, rfl, HSRC.out⟩) (by rw [HL.out, zdl]; omega) (yk0 _) (w.heap.size + 1) _ HW.out (Nat.le_refl _) ?_
        intro w2 hg2 hb2)
 have HB2 := Lib.hid hb2
 have h1 : w2.heap[w.heap.size + 1]? = some (.cells (rc (zfi l)) 23 (0, 0)) := by have := hg2.out; rwa [zyz zr l hl] at this
 have h0 : w2.heap[w.heap.size]? = some (.cells (rc zr) 23 (0, 0)) := by rw [hb2.block _ (by omega)]; exact heap_alloc_last w _
 have hr : ldA w2 (.pointer (some ⟨w.heap.size + 1, 0, none⟩)) 32 = some (rc (zfi l)) := zae h1 (zal _)
 have hwr : wrA w2 (.pointer (some ⟨w.heap.size, 0, none⟩)) 32 = true := zay h0 (zal _)
 have HWR := Lib.hid hwr
 clear h1 h0 hg2 hb2
 rw [HL.out]
 go_region
 go_wp2_with fail
 have B : Below w.heap.size w (stA w2.drew (.pointer (some ⟨w.heap.size, 0, none⟩)) (.agg (rc (zfi l)))) :=
  zao ((((Below.refl w.heap.size w).alloc (Nat.le_refl _) _).trans (HB2.out.mono (Nat.le_succ _))).drew) (Nat.le_refl _)
 exact bodyPost_ret (zdf Tryz.isAgg23 Tryz.sizeOf23 _ 2 3 rfl _ _ _ (rc (zfi l)) vr rfl rfl (ze2 (by rw [yf5]; exact HWR.out) (zal _))) rfl ⟨vr, rfl, HR.out, B⟩
theorem zjx (v : Value) (l : List UInt8) (hl : 40 ≤ l.length) (w : World) (h : SlB w v l) :
  Calls Tryz.prog 139 #[v] w (z1j (.agg (ccO (zoo l))) v l (l.drop 40) w) := by
 have HS := Lib.hid h
 clear h
 have b0 : Below w.heap.size w ((w.alloc (.cells (ccO zcO) 37)).alloc (.cells (ccO zcO) 37)) := ((Below.refl w.heap.size w).alloc (Nat.le_refl _) _).alloc (by simp) _
 have HB0 := Lib.hid b0; clear b0
 go_enter Tryz.func139, Tryz.ntmps139
 go_wp2_with fail
 refine (zd0 v l (by omega) _ (zc7 HB0.out HS.out)).mono ?_
 rintro e w1 ⟨v1, rfl, hs1, hb1⟩
 have g1 : w1.heap[w.heap.size + 1]? = some (.cells (ccO zcO) 37 (0, 0)) := by rw [hb1.block _ (by simp)]; exact heap_alloc2_new w _ _
 have g0 : w1.heap[w.heap.size]? = some (.cells (ccO zcO) 37 (0, 0)) := by rw [hb1.block _ (by simp; omega)]; exact heap_alloc2_old w _ _
 have c1 : w1.cell? ⟨w.heap.size + 1, 0, none⟩ = some (numO zcO.epoch) := ycc g1
 have f1 : w1.frozen? ⟨w.heap.size + 1, 0, none⟩ = false := frozen_of_row _ _ _ _ _ g1
 have HB1 := Lib.hid (zad HB0.out hb1)
 have HS1 := Lib.hid (hs1 _ HS.out)
 have HT1 := Lib.hid hs1
 have HG1 := Lib.hid g1
 have HG0 := Lib.hid g0
 clear hs1 hb1 g1 g0
 have HB1' : Hid (Below w.heap.size w (w1.setCell ⟨w.heap.size + 1, 0, none⟩ (numO (zdi l)))) := HB1.out.setCell (by show w.heap.size ≤ w.heap.size + 1; omega) _
 have HG1' : Hid ((w1.setCell ⟨w.heap.size + 1, 0, none⟩ (numO (zdi l))).heap[w.heap.size + 1]? = some (.cells (ccO ⟨zdi l, zr⟩) 37 (0, 0))) := by
  show _ = _
  rw [zd5 HG1.out, zgf (by rw [zcv]; omega), yd1]
  rfl
 have HG0' : Hid ((w1.setCell ⟨w.heap.size + 1, 0, none⟩ (numO (zdi l))).heap[w.heap.size]? = some (.cells (ccO zcO) 37 (0, 0))) := by
  show _ = _
  rw [Below.heap_setCell _ _ _ _ (by show w.heap.size ≠ w.heap.size + 1; omega)]; exact HG0.out
 go_wp2_with fail
 refine (zfe v1 (l.drop 8) (by rw [List.length_drop]; omega) _ (zc7 HB1'.out HS1.out)).mono ?_
 rintro e w2 ⟨v2, rfl, hs2, hb2⟩
 have hz1 : w.heap.size + 1 < (w1.setCell ⟨w.heap.size + 1, 0, none⟩ (numO (zdi l))).heap.size := (Array.getElem?_eq_some_iff.1 HG1'.out).1
 have g1 : w2.heap[w.heap.size + 1]? = some (.cells (ccO ⟨zdi l, zr⟩) 37 (0, 0)) := by rw [hb2.block _ hz1]; exact HG1'.out
 have g0 : w2.heap[w.heap.size]? = some (.cells (ccO zcO) 37 (0, 0)) := by rw [hb2.block _ (by omega)]; exact HG0'.out
 have HT2 := Lib.hid hs2
 have HB2 := Lib.hid (zad HB1'.out hb2)
 have wr2 : wrA w2 (.pointer (some ⟨w.heap.size + 1, 1, none⟩)) 32 = true := z4k g1 (by rw [zcv]; omega)
 have g1' : (stA w2 (.pointer (some ⟨w.heap.size + 1, 1, none⟩)) (.agg (rc (zfi (l.drop 8))))).heap[w.heap.size + 1]? = some (.cells (ccO (zoo l)) 37 (0, 0)) := by
  rw [zjz g1 (by rw [zcv, zal]; omega), z3m]; rfl
 have g0' : (stA w2 (.pointer (some ⟨w.heap.size + 1, 1, none⟩)) (.agg (rc (zfi (l.drop 8))))).heap[w.heap.size]? = some (.cells (ccO zcO) 37 (0, 0)) := by
  rw [zcp (by omega)]; exact g0
 have ld3 : ldA (stA w2 (.pointer (some ⟨w.heap.size + 1, 1, none⟩)) (.agg (rc (zfi (l.drop 8))))) (.pointer (some ⟨w.heap.size + 1, 0, none⟩)) 33 = some (ccO (zoo l)) := zae g1' (zcv _)
 have wr3 : wrA (stA w2 (.pointer (some ⟨w.heap.size + 1, 1, none⟩)) (.agg (rc (zfi (l.drop 8))))) (.pointer (some ⟨w.heap.size, 0, none⟩)) 33 = true := zay g0' (zcv _)
 have HW3 := Lib.hid wr3
 have HB3 : Hid (Below w.heap.size w (stA w2 (.pointer (some ⟨w.heap.size + 1, 1, none⟩)) (.agg (rc (zfi (l.drop 8)))))) := zao HB2.out (by omega)
 clear hs2 hb2 g1 g0 g1' g0' c1 f1 hz1
 go_wp2_with fail
 exact bodyPost_ret (zdf Tryz.isAgg37 Tryz.sizeOf37 _ 2 3 rfl _ _ _ (ccO (zoo l)) v2 rfl rfl (ze2 HW3.out (zcv _))) rfl ⟨v2, rfl, fun W hW => by have := HT2.out W (HT1.out W hW); rwa [List.drop_drop] at this, zao HB3.out (Nat.le_refl _)⟩
structure StO (T : TypeId) (z : Array Value) (w W : World) (c : Array Value) : Prop where
 below : Below w.heap.size w W
 out : W.heap[w.heap.size + 1]? = some (.cells c T (0, 0))
 res : W.heap[w.heap.size]? = some (.cells z T (0, 0))
section
variable {T : TypeId} {z : Array Value} {w W : World} {c : Array Value}
theorem StO.start (w : World) (T : TypeId) (z c : Array Value) : StO T z w ((w.alloc (.cells z T)).alloc (.cells c T)) c :=
 ⟨((Below.refl w.heap.size w).alloc (Nat.le_refl _) _).alloc (by simp) _, heap_alloc2_new w _ _, heap_alloc2_old w _ _⟩
theorem StO.call (h : StO T z w W c) {w' : World} (hb : Below W.heap.size W w') : StO T z w w' c := by
 have h1 := (Array.getElem?_eq_some_iff.1 h.out).1
 exact ⟨zad h.below hb, by rw [hb.block _ h1]; exact h.out, by rw [hb.block _ (by omega)]; exact h.res⟩
theorem StO.store (h : StO T z w W c) (o : Nat) (r : Array Value) (hr : o + r.size ≤ c.size) : StO T z w (stA W (.pointer (some ⟨w.heap.size + 1, o, none⟩)) (.agg r)) (zb3 c o r) :=
 ⟨zao h.below (by omega), zjz h.out hr, by rw [zcp (by omega)]; exact h.res⟩
theorem StO.set (h : StO T z w W c) (o : Nat) (v : Value) (hr : o < c.size) : StO T z w (W.setCell ⟨w.heap.size + 1, o, none⟩ v) (zb3 c o #[v]) :=
 ⟨h.below.setCell (by show w.heap.size ≤ w.heap.size + 1; omega) _, by rw [zd5 h.out, zgf hr], by rw [Below.heap_setCell _ _ _ _ (by show w.heap.size ≠ w.heap.size + 1; omega)]; exact h.res⟩
theorem StO.to (h : StO T z w W c) {c' : Array Value} (e : c = c') : StO T z w W c' := e ▸ h
theorem StO.wr (h : StO T z w W c) (o n : Nat) (hr : o + n ≤ c.size) : wrA W (.pointer (some ⟨w.heap.size + 1, o, none⟩)) n = true := z4k h.out hr
theorem StO.fz (h : StO T z w W c) (o : Nat) : W.frozen? ⟨w.heap.size + 1, o, none⟩ = false := frozen_of_row _ _ _ _ _ h.out
theorem StO.ld (h : StO T z w W c) (n : Nat) (hn : c.size = n) : ldA W (.pointer (some ⟨w.heap.size + 1, 0, none⟩)) n = some c := zae h.out hn
theorem StO.wr0 (h : StO T z w W c) (n : Nat) (hn : z.size = n) : wrA W (.pointer (some ⟨w.heap.size, 0, none⟩)) n = true := zay h.res hn
end
@[local go_sem ↓ high] theorem ykp (ρ : Operand → Value) (dst : Option Tmp) (ty : TypeId) (pos : String) (after : Array Edge) (guard : Option (Nat × Bool)) (w : World) :
  (execOp ρ { dst, op := .build 69 #[], type := ty, pos, after, guard }).run Tryz.prog w = .ok (.value (.agg (bcO zbO))) w := by
 unfold execOp
 simp only [Instr.build, Sem.run_bind, zqs, Result.andThen_ok, run_underlying Tryz.underlying69]
 simp [Instr.fill, Value.cells]
@[local go_sem ↓ high] theorem yo1 (ρ : Operand → Value) (dst : Option Tmp) (ty : TypeId) (pos : String) (after : Array Edge) (guard : Option (Nat × Bool)) (w : World) :
  (execOp ρ { dst, op := .build 62 #[], type := ty, pos, after, guard }).run Tryz.prog w = .ok (.value (.agg (acO zaO))) w := by
 unfold execOp
 simp only [Instr.build, Sem.run_bind, zrw, Result.andThen_ok, run_underlying Tryz.underlying62]
 simp [Instr.fill, Value.cells]
def zv2 (l : List UInt8) (w : World) (e : Ending) (w' : World) : Prop := e = .returned (.tuple #[.agg (bcO (zpf l)), .bool (isBO l)]) ∧ Below w.heap.size w w'
def ydb (l : List UInt8) (w : World) (e : Ending) (w' : World) : Prop := e = .returned (.tuple #[.agg (acO (zq9 l)), .bool (isAO l)]) ∧ Below w.heap.size w w'
theorem yc1 (v : Value) (l : List UInt8) (w : World) (h : SlB w v l) (hB : isBO l = false) : Calls Tryz.prog 113 #[v] w (zv2 l w) := by
 have HS := Lib.hid h; clear h
 have b0 : Below w.heap.size w (w.alloc (.cells (bcO zbO) 69)) := (Below.refl w.heap.size w).alloc (Nat.le_refl _) _
 have c1 := zmf v l 1 81 (by omega) _ (zc7 b0 HS.out)
 rw [show zkj l 1 81 = isBO l from rfl, hB] at c1
 have HB := Lib.hid hB
 clear hB
 go_enter Tryz.func113, Tryz.ntmps113
 go_wp2_with fail
 refine c1.mono ?_
 rintro e w1 ⟨rfl, rfl⟩
 clear c1
 go_wp2_with fail
 exact bodyPost_ret (zdf Tryz.isAgg69 Tryz.sizeOf69 _ 2 3 rfl _ _ _ (bcO zbO) _ rfl rfl (by go_simp)) rfl ⟨by rw [z6n HB.out, HB.out]; rfl, by assumption⟩
theorem yfk {l : List UInt8} (h : isBO l = true) : l.length = 81 := by
 unfold isBO at h
 rw [Bool.and_eq_true, decide_eq_true_iff] at h
 exact h.1
theorem ye4 {l : List UInt8} (h : isAO l = true) : l.length = 123 := by
 unfold isAO at h
 rw [Bool.and_eq_true, decide_eq_true_iff] at h
 exact h.1
theorem z5x (v : Value) (l : List UInt8) (w : World) (h : SlB w v l) (hB : isBO l = true) : Calls Tryz.prog 113 #[v] w (zv2 l w) := by
 have HS := Lib.hid h; clear h
 have hl := yfk hB
 have b0 : Below w.heap.size w (w.alloc (.cells (bcO zbO) 69)) := (Below.refl w.heap.size w).alloc (Nat.le_refl _) _
 have c1 := zmf v l 1 81 (by omega) _ (zc7 b0 HS.out)
 rw [show zkj l 1 81 = isBO l from rfl, hB] at c1
 have HE : Hid (Ending.returned (.tuple #[.agg (bcO (ylr l)), .bool true]) = .returned (.tuple #[.agg (bcO (zpf l)), .bool (isBO l)])) := by
  show _ = _
  unfold zpf
  rw [if_pos hB, hB]
 obtain ⟨p, cap, rfl, hcap⟩ := ycf HS.out
 obtain ⟨v0, hv0, hs0⟩ := zk4 p cap l 1 (by omega) hcap
 replace hv0 : zw6 (.slice p l.length cap) (.int .i64 1) = some v0 := hv0
 obtain ⟨l1, hl1⟩ : ∃ l1, l1 = l.drop 1 := ⟨_, rfl⟩
 obtain ⟨l2, hl2⟩ : ∃ l2, l2 = l.drop 33 := ⟨_, rfl⟩
 obtain ⟨l3, hl3⟩ : ∃ l3, l3 = l.drop 65 := ⟨_, rfl⟩
 obtain ⟨l4, hl4⟩ : ∃ l4, l4 = l.drop 73 := ⟨_, rfl⟩
 have HG : Hid (ylr l = ⟨zfi l1, zfi l2, zdi l3, zdi l4⟩) := by show _ = _; rw [hl1, hl2, hl3, hl4]; rfl
 have HS0 := Lib.hid (hs0 _ HS.out)
 rw [← hl1] at HS0
 have H1 : Hid (32 ≤ l1.length) := by show _ ≤ _; rw [hl1, List.length_drop]; omega
 have H2 : Hid (32 ≤ l2.length) := by show _ ≤ _; rw [hl2, List.length_drop]; omega
 have H3 : Hid (8 ≤ l3.length) := by show _ ≤ _; rw [hl3, List.length_drop]; omega
 have H4 : Hid (8 ≤ l4.length) := by show _ ≤ _; rw [hl4, List.length_drop]; omega
 have E2 : Hid (l1.drop 32 = l2) := by show _ = _; rw [hl1, hl2, List.drop_drop]
 have E3 : Hid (l2.drop 32 = l3) := by show _ = _; rw [hl2, hl3, List.drop_drop]
 have E4 : Hid (l3.drop 8 = l4) := by show _ = _; rw [hl3, hl4, List.drop_drop]
 clear hB hs0 b0 hl hl1 hl2 hl3 hl4
 have HZ0 := Lib.hid (StO.start w 69 (bcO zbO) (bcO zbO))
 go_enter Tryz.func113, Tryz.ntmps113
 go_wp2_with fail
 refine c1.mono ?_
 rintro e w1 ⟨rfl, rfl⟩
 clear c1
 go_wp2_with fail
 refine (zfe v0 l1 H1.out _ (zc7 HZ0.out.below HS0.out)).mono ?_
 rintro e w1 ⟨v1, rfl, hs1, hb1⟩
 have HZ1 := Lib.hid (HZ0.out.call hb1)
 rw [E2.out] at hs1
 have HS1 := Lib.hid (hs1 _ HS0.out)
 have r1 := HZ1.out.wr 0 32 (by rw [zeb]; omega)
 have HY1 := Lib.hid ((HZ1.out.store 0 (rc (zfi l1)) (by rw [zeb, zal]; omega)).to (z4z zbO _))
 clear hs1 hb1 hv0
 go_wp2_with fail
 refine (zfe v1 l2 H2.out _ (zc7 HY1.out.below HS1.out)).mono ?_
 rintro e w2 ⟨v2, rfl, hs2, hb2⟩
 have HZ2 := Lib.hid (HY1.out.call hb2)
 rw [E3.out] at hs2
 have HS2 := Lib.hid (hs2 _ HS1.out)
 have r2 := HZ2.out.wr 32 32 (by rw [zeb]; omega)
 have HY2 := Lib.hid ((HZ2.out.store 32 (rc (zfi l2)) (by rw [zeb, zal]; omega)).to (zs4 _ _))
 clear hs2 hb2 r1
 go_wp2_with fail
 refine (zd0 v2 l3 H3.out _ (zc7 HY2.out.below HS2.out)).mono ?_
 rintro e w3 ⟨v3, rfl, hs3, hb3⟩
 have HZ3 := Lib.hid (HY2.out.call hb3)
 rw [E4.out] at hs3
 have HS3 := Lib.hid (hs3 _ HS2.out)
 have r3 := zxb HZ3.out.out
 have q3 := HZ3.out.fz 64
 have HY3 := Lib.hid ((HZ3.out.set 64 (numO (zdi l3)) (by rw [zeb]; omega)).to (yjm _ _))
 clear hs3 hb3 r2
 go_wp2_with fail
 refine (zd0 v3 l4 H4.out _ (zc7 HY3.out.below HS3.out)).mono ?_
 rintro e w4 ⟨v4, rfl, hs4, hb4⟩
 have HZ4 := Lib.hid (HY3.out.call hb4)
 have r4 := zyj HZ4.out.out
 have q4 := HZ4.out.fz 65
 have HY4 := Lib.hid ((HZ4.out.set 65 (numO (zdi l4)) (by rw [zeb]; omega)).to (yf0 _ _))
 have l4' := HY4.out.ld 66 (zeb _)
 have t4 := HY4.out.wr0 66 (zeb _)
 have HT4 := Lib.hid t4
 clear hs4 hb4 r3 q3
 simp only [numO] at l4' t4
 go_wp2_with fail
 refine bodyPost_ret (zdf Tryz.isAgg69 Tryz.sizeOf69 _ 2 3 rfl _ _ _ _ _ rfl rfl (ze2 HT4.out (zeb _))) rfl ⟨?_, zao HY4.out.below (Nat.le_refl _)⟩
 rw [← HE.out, HG.out]
 rfl
theorem z8q (v : Value) (l : List UInt8) (w : World) (h : SlB w v l) : Calls Tryz.prog 113 #[v] w (zv2 l w) := by
 cases hB : isBO l with
 | true => exact z5x v l w h hB
 | false => exact yc1 v l w h hB
def zn0 (pl : List (Nat × Nat)) (c : Array Value) : List (Nat × Value) → Option (Array Value)
 | [] => some c
 | (i, v) :: rest =>
  match pl[i]? with
  | some (off, size) => if v.cells.size = size ∧ off + size ≤ c.size then zn0 pl (zb3 c off v.cells) rest else none
  | none => none
theorem zro (pl : List (Nat × Nat)) : ∀ (ps : List (Nat × Value)) (c r : Array Value), zn0 pl c ps = some r → Instr.fill (fun i => pl.toArray[i]?) c ps = some r
 | [], c, r, h => h
 | (i, v) :: rest, c, r, h => by
  unfold zn0 at h
  cases hp : pl[i]? with
  | none => rw [hp] at h; cases h
  | some os =>
   obtain ⟨off, size⟩ := os
   rw [hp] at h
   dsimp only at h
   split at h
   ·
    rename_i hs
    rw [z56 (fun i => pl.toArray[i]?) c i v rest off size (by simpa using hp) hs.1 hs.2]
    exact zro pl rest _ r h
   ·
    cases h
section
variable {P : Program}
theorem znq {T : TypeId} {fs : Array Field} {pl : List (Nat × Nat)} {z : Array Value} (hz : ∀ w, (zeroValue T).run P w = .ok (.agg z) w) (hu : P.underlying T = some (.struct fs)) (hp : ∀ w, (fs.mapM (m := Sem) fun f => do pure (f.offset, ← Go.sizeOf f.type)).run P w = .ok pl.toArray w) (parts : Array (Nat × Value)) (w : World) (r : Array Value) (h : zn0 pl z parts.toList = some r) :
  (Instr.build T parts).run P w = .ok (.agg r) w := by
 have hf := zro pl parts.toList z r h
 simp only [Instr.build, Sem.run_bind, hz, Result.andThen_ok, run_underlying hu, hp, Value.cells, hf]
 rfl
theorem z8l {T : TypeId} {fs : Array Field} {pl : List (Nat × Nat)} {z : Array Value} (hz : ∀ w, (zeroValue T).run P w = .ok (.agg z) w) (hu : P.underlying T = some (.struct fs)) (hp : ∀ w, (fs.mapM (m := Sem) fun f => do pure (f.offset, ← Go.sizeOf f.type)).run P w = .ok pl.toArray w)
  (ρ : Operand → Value) (dst : Option Tmp) (ps : Array (Nat × Operand)) (ty : TypeId) (pos : String) (after : Array Edge) (guard : Option (Nat × Bool)) (w : World) :
  (execOp ρ { dst, op := .build T ps, type := ty, pos, after, guard }).run P w = vOut ((zn0 pl z (ps.toList.map fun p => (p.1, ρ p.2))).map .agg) w (za4 P ρ { dst, op := .build T ps, type := ty, pos, after, guard } w) := by
 cases h : zn0 pl z (ps.toList.map fun p => (p.1, ρ p.2)) with
 | none => rfl
 | some r =>
  unfold execOp
  simp only [Sem.run_bind]
  rw [znq hz hu hp _ w r (by simpa using h)]
  rfl
end
def placesAO : List (Nat × Nat) := [(0, 1), (1, 1), (2, 32), (34, 33), (67, 33)]
theorem yja : ∀ w : World, ((Tryz.prog.fieldsOf 62).mapM (m := Sem) fun f => do pure (f.offset, ← Go.sizeOf f.type)).run Tryz.prog w = .ok placesAO.toArray w := fun _ => by kernel_rfl
theorem ynf : Tryz.prog.underlying 62 = some (.struct (Tryz.prog.fieldsOf 62)) := by kernel_rfl
@[local go_sem ↓ high] theorem ylj (ρ : Operand → Value) (dst : Option Tmp) (p : Nat × Operand) (ps : List (Nat × Operand)) (ty : TypeId) (pos : String) (after : Array Edge) (guard : Option (Nat × Bool)) (w : World) :
  (execOp ρ { dst, op := .build 62 (p :: ps).toArray, type := ty, pos, after, guard }).run Tryz.prog w = vOut ((zn0 placesAO (acO zaO) ((p.1, ρ p.2) :: ps.map fun p => (p.1, ρ p.2))).map .agg) w (za4 Tryz.prog ρ { dst, op := .build 62 (p :: ps).toArray, type := ty, pos, after, guard } w) :=
 z8l zrw ynf yja ρ dst (p :: ps).toArray ty pos after guard w
attribute [local go_sem] zn0 placesAO z4z zs4 yl1 z32 ztm zto z3m
theorem StO.drew {T : TypeId} {z : Array Value} {w W : World} {c : Array Value} (h : StO T z w W c) : StO T z w W.drew c := ⟨h.below.drew, h.out, h.res⟩
theorem z2b {c r : Array Value} (h : c.size = r.size) : zb3 c 0 r = r := by
 unfold zb3
 rw [List.take_zero, List.nil_append, List.drop_of_length_le (by simp; omega), List.append_nil, Array.toArray_toList]
theorem yn0 (x y : Int) (hx : 0 ≤ x) (hx1 : x < 256) (hy : 0 ≤ y) (hy1 : y < 256) : bits .or .i64 (x * 256) y = 256 * x + y := by
 have hj := bits_join .i64 62 (by decide) (fun n h1 h2 => IntWalk.i64_in n (by omega)) 8 (x * 256) y (by omega) (by omega) (by omega) (by omega) (by omega) (by omega)
 rw [hj]
 omega
theorem yn3 (v : Value) (l : List UInt8) (w : World) (h : SlB w v l) (hB : isAO l = false) : Calls Tryz.prog 114 #[v] w (ydb l w) := by
 have HS := Lib.hid h; clear h
 have b0 : Below w.heap.size w (w.alloc (.cells (acO zaO) 62)) := (Below.refl w.heap.size w).alloc (Nat.le_refl _) _
 have c1 := zmf v l 2 123 (by omega) _ (zc7 b0 HS.out)
 rw [show zkj l 2 123 = isAO l from rfl, hB] at c1
 have HB := Lib.hid hB
 clear hB
 go_enter Tryz.func114, Tryz.ntmps114
 go_wp2_with fail
 refine c1.mono ?_
 rintro e w1 ⟨rfl, rfl⟩
 clear c1
 go_wp2_with fail
 exact bodyPost_ret (zdf Tryz.isAgg62 Tryz.sizeOf62 _ 2 3 rfl _ _ _ (acO zaO) _ rfl rfl (by go_simp)) rfl ⟨by rw [z7e HB.out, HB.out]; rfl, by assumption⟩
theorem ygz (v : Value) (l : List UInt8) (w : World) (h : SlB w v l) (hB : isAO l = true) : Calls Tryz.prog 114 #[v] w (ydb l w) := by
 have HS := Lib.hid h
 have hl := ye4 hB
 have b0 : Below w.heap.size w (w.alloc (.cells (acO zaO) 62)) := (Below.refl w.heap.size w).alloc (Nat.le_refl _) _
 have c1 := zmf v l 2 123 (by omega) _ (zc7 b0 HS.out)
 rw [show zkj l 2 123 = isAO l from rfl, hB] at c1
 have HE : Hid (Ending.returned (.tuple #[.agg (acO (yny l)), .bool true]) = .returned (.tuple #[.agg (acO (zq9 l)), .bool (isAO l)])) := by
  show _ = _
  unfold zq9
  rw [if_pos hB, hB]
 obtain ⟨b, off, cap, rfl, hcap, hb, hx⟩ := zws h (by omega)
 obtain ⟨v0, hv0, hs0⟩ := zk4 (some ⟨b, off, none⟩) cap l 3 (by omega) hcap
 replace hv0 : zw6 (.slice (some ⟨b, off, none⟩) l.length cap) (.int .i64 3) = some v0 := hv0
 have x1 : (w.alloc (.cells (acO zaO) 62)).cell? ⟨b, off + 1, none⟩ = some (.int .u8 (bt l 1)) := by rw [World.cell?_alloc_lt _ _ _ hb]; exact hx 1 (by omega)
 have x2 : (w.alloc (.cells (acO zaO) 62)).cell? ⟨b, off + 2, none⟩ = some (.int .u8 (bt l 2)) := by rw [World.cell?_alloc_lt _ _ _ hb]; exact hx 2 (by omega)
 have i1 : (1 : Int) < (l.length : Int) := by omega
 have i2 : (2 : Int) < (l.length : Int) := by omega
 have y1 := z9d l 1
 have y2 := z9d l 2
 have hor := yn0 (bt l 1) (bt l 2) y1.1 y1.2 y2.1 y2.2
 obtain ⟨l1, hl1⟩ : ∃ l1, l1 = l.drop 3 := ⟨_, rfl⟩
 obtain ⟨l2, hl2⟩ : ∃ l2, l2 = l.drop 11 := ⟨_, rfl⟩
 obtain ⟨l3, hl3⟩ : ∃ l3, l3 = l.drop 43 := ⟨_, rfl⟩
 obtain ⟨l4, hl4⟩ : ∃ l4, l4 = l.drop 83 := ⟨_, rfl⟩
 have HG : Hid (yny l = ⟨256 * bt l 1 + bt l 2, zdi l1, zfi l2, zoo l3, zoo l4⟩) := by show _ = _; rw [hl1, hl2, hl3, hl4]; rfl
 have HS0 := Lib.hid (hs0 _ HS.out)
 rw [← hl1] at HS0
 have H1 : Hid (8 ≤ l1.length) := by show _ ≤ _; rw [hl1, List.length_drop]; omega
 have H2 : Hid (32 ≤ l2.length) := by show _ ≤ _; rw [hl2, List.length_drop]; omega
 have H3 : Hid (40 ≤ l3.length) := by show _ ≤ _; rw [hl3, List.length_drop]; omega
 have H4 : Hid (40 ≤ l4.length) := by show _ ≤ _; rw [hl4, List.length_drop]; omega
 have E2 : Hid (l1.drop 8 = l2) := by show _ = _; rw [hl1, hl2, List.drop_drop]
 have E3 : Hid (l2.drop 32 = l3) := by show _ = _; rw [hl2, hl3, List.drop_drop]
 have E4 : Hid (l3.drop 40 = l4) := by show _ = _; rw [hl3, hl4, List.drop_drop]
 clear hB hs0 hl h hx hl1 hl2 hl3 hl4
 have HZ0 := Lib.hid (StO.start w 62 (acO zaO) (acO zaO))
 go_enter Tryz.func114, Tryz.ntmps114
 go_wp2_with fail
 refine c1.mono ?_
 rintro e w1 ⟨rfl, rfl⟩
 clear c1
 go_wp2_with fail
 go_region
 have HY0 := Lib.hid ((HZ0.out.drew.store 0 (acO { zaO with val := 256 * bt l 1 + bt l 2 }) (by rw [zcq, zcq]; omega)).to (z2b (by rw [zcq, zcq])))
 clear x1 x2 y1 y2 hor b0
 go_wp2_with fail
 refine (zd0 v0 l1 H1.out _ (zc7 HY0.out.below HS0.out)).mono ?_
 rintro e w1 ⟨v1, rfl, hs1, hb1⟩
 have HZ1 := Lib.hid (HY0.out.call hb1)
 rw [E2.out] at hs1
 have HS1 := Lib.hid (hs1 _ HS0.out)
 have r1 := ybw HZ1.out.out
 have q1 := HZ1.out.fz 1
 have HY1 := Lib.hid ((HZ1.out.set 1 (numO (zdi l1)) (by rw [zcq]; omega)).to (yfw _ _))
 clear hs1 hb1 hv0
 go_wp2_with fail
 refine (zfe v1 l2 H2.out _ (zc7 HY1.out.below HS1.out)).mono ?_
 rintro e w2 ⟨v2, rfl, hs2, hb2⟩
 have HZ2 := Lib.hid (HY1.out.call hb2)
 rw [E3.out] at hs2
 have HS2 := Lib.hid (hs2 _ HS1.out)
 have r2 := HZ2.out.wr 2 32 (by rw [zcq]; omega)
 have HY2 := Lib.hid ((HZ2.out.store 2 (rc (zfi l2)) (by rw [zcq, zal]; omega)).to (z32 _ _))
 clear hs2 hb2 r1 q1
 go_wp2_with fail
 refine (zjx v2 l3 H3.out _ (zc7 HY2.out.below HS2.out)).mono ?_
 rintro e w3 ⟨v3, rfl, hs3, hb3⟩
 have HZ3 := Lib.hid (HY2.out.call hb3)
 rw [E4.out] at hs3
 have HS3 := Lib.hid (hs3 _ HS2.out)
 have r3 := HZ3.out.wr 34 33 (by rw [zcq]; omega)
 have HY3 := Lib.hid ((HZ3.out.store 34 (ccO (zoo l3)) (by rw [zcq, zcv]; omega)).to (ztm _ _))
 clear hs3 hb3 r2
 go_wp2_with fail
 refine (zjx v3 l4 H4.out _ (zc7 HY3.out.below HS3.out)).mono ?_
 rintro e w4 ⟨v4, rfl, hs4, hb4⟩
 have HZ4 := Lib.hid (HY3.out.call hb4)
 have r4 := HZ4.out.wr 67 33 (by rw [zcq]; omega)
 have HY4 := Lib.hid ((HZ4.out.store 67 (ccO (zoo l4)) (by rw [zcq, zcv]; omega)).to (zto _ _))
 have l4' := HY4.out.ld 100 (zcq _)
 have t4 := HY4.out.wr0 100 (zcq _)
 have HT4 := Lib.hid t4
 clear hs4 hb4 r3
 go_wp2_with fail
 refine bodyPost_ret (zdf Tryz.isAgg62 Tryz.sizeOf62 _ 2 3 rfl _ _ _ _ _ rfl rfl (ze2 HT4.out (zcq _))) rfl ⟨?_, zao HY4.out.below (Nat.le_refl _)⟩
 rw [← HE.out, HG.out]
 rfl
theorem ye5 (v : Value) (l : List UInt8) (w : World) (h : SlB w v l) : Calls Tryz.prog 114 #[v] w (ydb l w) := by
 cases hB : isAO l with
 | true => exact ygz v l w h hB
 | false => exact yn3 v l w h hB
end
end Go.Proofs.YtmihlihlpdkdcaaGreat
