import Derived.Test.YtkalofboioffiaaGreatQ07
namespace Go.Proofs.YtkalofboioffiaaGreat
open Go.RowKit
set_option maxRecDepth 200000
set_option maxHeartbeats 64000000
def FitW (l : List Nd) (a : List UInt64) : Prop := a.length = l.length ∧ ∀ i, i < l.length → subT l (fn a) i < 18446744073709551616
instance (l : List Nd) (a : List UInt64) : Decidable (FitW l a) := by unfold FitW; exact inferInstance
def zh5 (l : List Nd) (a : List UInt64) : Bool := decide (MayT l ∧ FitW l a)
def subL (l : List Nd) (a : List UInt64) : List UInt64 := if zh5 l a = true then zc9 (subT l (fn a)) l.length else []
section
variable {l : List Nd} {a : List UInt64}
theorem ziw : zh5 l a = true ↔ MayT l ∧ a.length = l.length ∧ ∀ i, i < l.length → subT l (fn a) i < 18446744073709551616 := by
 unfold zh5 FitW
 rw [decide_eq_true_iff]
theorem z4n (h : zh5 l a = true) : subL l a = zc9 (subT l (fn a)) l.length := by unfold subL; rw [if_pos h]
theorem ydi (h : zh5 l a = false) : subL l a = [] := by unfold subL; rw [if_neg (by rw [h]; exact Bool.false_ne_true)]
theorem zwc (h : zh5 l a = true) : (subL l a).length = l.length := by rw [z4n h, zhn]
theorem ydh (h : zh5 l a = true) {i : Nat} (hi : i < l.length) : fn (subL l a) i = subT l (fn a) i := by
 rw [z4n h]
 exact z0r hi ((ziw.1 h).2.2 i hi)
variable {w p m : List UInt64}
theorem z15 (h : MayT l) (hl : a.length = l.length) {b : Nat} (hb : b * 12 < 18446744073709551616) (ha : ∀ k, k < l.length → fn a k ≤ b) : zh5 l a = true := by
 refine ziw.2 ⟨h, hl, fun i _ => ?_⟩
 have h1 := ydj (l := l) (fn a) i b ha
 have h2 : l.length * b ≤ 12 * b := Nat.mul_le_mul_right _ h.le
 omega
end
section
open Go.RowKit
structure Lt where
 has : Bool
 root : Rt
 epoch : UInt64
theorem Lt.ext {x y : Lt} (h0 : x.has = y.has) (h1 : x.root = y.root) (h2 : x.epoch = y.epoch) : x = y := by cases x; cases y; simp_all
instance : DecidableEq Lt := fun x y => decidable_of_iff (x.has = y.has ∧ x.root = y.root ∧ x.epoch = y.epoch) ⟨fun h => Lt.ext h.1 h.2.1 h.2.2, fun h => by subst h; exact ⟨rfl, rfl, rfl⟩⟩
def ltL (x : Lt) : List Value := [.bool x.has] ++ ((rc x.root).toList ++ ([num x.epoch]))
def lt (x : Lt) : Array Value := (ltL x).toArray
theorem zvi (x : Lt) : (lt x).toList = ltL x := rfl
theorem yjq (x : Lt) : (ltL x).length = 34 := by simp [ltL, zav]
theorem zqj (x : Lt) : (lt x).size = 34 := by rw [← Array.length_toList, zvi, yjq]
theorem yjr (x : Lt) : ∀ v ∈ ltL x, v.oneCell' = true := by
 intro v hv
 unfold ltL at hv
 simp only [List.mem_append, List.mem_singleton] at hv
 rcases hv with rfl | hv | rfl
 ·
  rfl
 ·
  exact zis _ v hv
 ·
  rfl
@[go_sem] theorem yty (x : Lt) : okA 34 (.agg (lt x)) = true := by
 show ((lt x).size == 34 && (lt x).all (·.oneCell')) = true
 rw [show (lt x).all (·.oneCell') = true from zea (yjr x), zqj]; rfl
def zlt : Lt := ⟨false, zr, 0⟩
theorem yed (w : World) : (zeroValue 115).run Tryz.prog w = .ok (.agg (lt zlt)) w := by kernel_rfl
@[go_sem ↓] theorem ys8 (ρ : Operand → Value) (dst : Option Tmp) (x : Operand) (ty : TypeId) (pos : String) (after : Array Edge) (guard : Option (Nat × Bool)) (w : World) :
  (execOp ρ { dst, op := .load 115 x, type := ty, pos, after, guard }).run Tryz.prog w = zkh (ldA w (ρ x) 34) w (zbn Tryz.prog ρ { dst, op := .load 115 x, type := ty, pos, after, guard } w) :=
 zb2 Tryz.isAgg115 Tryz.sizeOf115 ρ dst x ty pos after guard w
@[go_sem ↓] theorem ysb (ρ : Operand → Value) (dst : Option Tmp) (x y : Operand) (ty : TypeId) (pos : String) (after : Array Edge) (guard : Option (Nat × Bool)) (w : World) :
  (execOp ρ { dst, op := .store 115 x y, type := ty, pos, after, guard }).run Tryz.prog w = zjo (wrA w (ρ x) 34 && okA 34 (ρ y)) (stA w (ρ x) (ρ y)) (zbn Tryz.prog ρ { dst, op := .store 115 x y, type := ty, pos, after, guard } w) :=
 zbm Tryz.sizeOf115 ρ dst x y ty pos after guard w
@[go_sem ↓] theorem yrm (ρ : Operand → Value) (dst : Option Tmp) (ty : TypeId) (pos : String) (after : Array Edge) (guard : Option (Nat × Bool)) (w : World) :
  (execOp ρ { dst, op := .alloc 115, type := ty, pos, after, guard }).run Tryz.prog w = .ok (.value (.pointer (some ⟨w.heap.size, 0, none⟩))) (w.alloc (.cells (lt zlt) 115)) := by
 unfold execOp
 simp only [Instr.alloc, Sem.run_bind, yed, Result.andThen_ok]
 rfl
def places_lt : List (Nat × Nat) := [(0, 1), (1, 32), (33, 1)]
theorem yad : ∀ w : World, ((Tryz.prog.fieldsOf 115).mapM (m := Sem) fun f => do pure (f.offset, ← Go.sizeOf f.type)).run Tryz.prog w = .ok places_lt.toArray w := fun _ => by kernel_rfl
theorem zjj : Tryz.prog.underlying 115 = some (.struct (Tryz.prog.fieldsOf 115)) := by kernel_rfl
theorem zux : (Tryz.prog.fieldsOf 115).toList.map (fun f => (f.name, f.type, f.offset)) = [("Has", 4, 0), ("Root", 34, 1), ("Epoch", 27, 33)] := by kernel_rfl
@[go_sem ↓] theorem ypa (ρ : Operand → Value) (dst : Option Tmp) (ty : TypeId) (pos : String) (after : Array Edge) (guard : Option (Nat × Bool)) (w : World) :
  (execOp ρ { dst, op := .build 115 #[], type := ty, pos, after, guard }).run Tryz.prog w = .ok (.value (.agg (lt zlt))) w :=
 zcg yed zjj yad ρ dst #[] ty pos after guard w
attribute [go_sem] places_lt zqj
theorem zln (x : Lt) : ltL x = ([]) ++ ([.bool x.has] ++ ((rc x.root).toList ++ ([num x.epoch]))) ∧ ([] : List Value).length = 0 := by
 constructor
 ·
  unfold ltL; simp
 ·
  rfl
theorem zm0 (x : Lt) : (lt x)[0]? = some (.bool x.has) := zij (zln x).1 (zln x).2
theorem ybg {w : World} {b off : Nat} {x : Lt} (h : w.rangeAt b off (ltL x)) : w.cell? ⟨b, off + 0, none⟩ = some (.bool x.has) := zbj h (zln x).1 (zln x).2
theorem ztb {w : World} {g : Nat} {t : TypeId} {fr : Nat × Nat} {x : Lt} (h : w.heap[g]? = some (.cells (lt x) t fr)) : w.cell? ⟨g, 0, none⟩ = some (.bool x.has) := by have := ybg (x := x) (zai h); rwa [Nat.zero_add] at this
theorem zjb (x : Lt) : ltL x = ([.bool x.has]) ++ ((rc x.root).toList ++ ([num x.epoch])) ∧ ([.bool x.has] : List Value).length = 1 := by
 constructor
 ·
  unfold ltL; simp
 ·
  simp
theorem zqh (x : Lt) : (lt x).extract 1 (1 + 32) = rc x.root := zdt (zjb x).1 (zjb x).2 (zav _)
theorem z6i {w : World} {b off : Nat} {x : Lt} (h : w.rangeAt b off (ltL x)) : ldA w (.pointer (some ⟨b, off + 1, none⟩)) 32 = some (rc x.root) := zca h (zjb x).1 (zjb x).2 (zav _)
theorem zqi {w : World} {g : Nat} {t : TypeId} {fr : Nat × Nat} {x : Lt} (h : w.heap[g]? = some (.cells (lt x) t fr)) : ldA w (.pointer (some ⟨g, 1, none⟩)) 32 = some (rc x.root) := by have := z6i (x := x) (zai h); rwa [Nat.zero_add] at this
theorem zhl (x : Lt) : ltL x = ([.bool x.has] ++ (rc x.root).toList) ++ ([num x.epoch] ++ ([])) ∧ ([.bool x.has] ++ (rc x.root).toList : List Value).length = 33 := by
 constructor
 ·
  unfold ltL; simp
 ·
  simp [zav]
theorem zns (x : Lt) : (lt x)[33]? = some (num x.epoch) := zij (zhl x).1 (zhl x).2
theorem z04 {w : World} {b off : Nat} {x : Lt} (h : w.rangeAt b off (ltL x)) : w.cell? ⟨b, off + 33, none⟩ = some (num x.epoch) := zbj h (zhl x).1 (zhl x).2
theorem zya {w : World} {g : Nat} {t : TypeId} {fr : Nat × Nat} {x : Lt} (h : w.heap[g]? = some (.cells (lt x) t fr)) : w.cell? ⟨g, 33, none⟩ = some (num x.epoch) := by have := z04 (x := x) (zai h); rwa [Nat.zero_add] at this
theorem ypu (d : Nat) (x y : Lt) (w : World) : (Op.equalIn (d + 3) 115 (.agg (lt x)) (.agg (lt y))).run Tryz.prog w = .ok (decide (x = y)) w := by
 rw [show d + 3 = (d + 2) + 1 from rfl, run_equalIn_struct w (d + 2) _ _ _ zjj (by kernel_rfl)]
 rw [zde zux (by decide) (yhg _ _ _ (zm0 x) w) (yhg _ _ _ (zm0 y) w) (ypt (d + 1) _ _ w)
  (fun _ h1 => zde h1 (by decide) (zvu _ _ _ (zqh x) w) (zvu _ _ _ (zqh y) w) (yf6 (d + 0) _ _ w)
  (fun _ h2 => zde h2 (by decide) (zyq _ _ _ (zns x) w) (zyq _ _ _ (zns y) w) (yf5 (d + 1) _ _ w)
  (fun _ hn => zut hn)))]
 congr 1
 rw [Bool.eq_iff_iff]
 simp only [Bool.and_eq_true, decide_eq_true_iff, and_true]
 exact ⟨fun h => Lt.ext h.1 h.2.1 h.2.2, fun h => by subst h; exact ⟨rfl, rfl, rfl⟩⟩
@[go_sem ↓] theorem yt9 (x y : Lt) (w : World) : (Op.equalIn 10000 115 (.agg (lt x)) (.agg (lt y))).run Tryz.prog w = .ok (decide (x = y)) w := ypu 9997 x y w
theorem zsu : Tryz.prog.cellsOf 115 = 34 := by kernel_rfl
section
open Go.WideShapes Go.ChangeShapes
variable {H : Type} {enc : TypeId × Value → H} {w : World} {base : Nat} {sp : Nat → Bool} {held : Bool}
theorem yfd {fuel : Nat} {cs : List Value} {x : DataW H × List MemPlace} (hl : cs.length = 34) (h : DataW.trod enc Tryz.prog w base sp held fuel 115 cs = some x) : ∃ a : Lt, cs = ltL a := by
 obtain ⟨_, _, h0⟩ := zas (i := 0) zjj zux rfl h
 rw [zz9] at h0
 obtain ⟨a0, e0⟩ := z88 h0
 obtain ⟨_, _, h1⟩ := zas (i := 1) zjj zux rfl h
 rw [zcp] at h1
 obtain ⟨a1, e1⟩ := zc6 h1
 obtain ⟨_, _, h2⟩ := zas (i := 2) zjj zux rfl h
 rw [zce] at h2
 obtain ⟨a2, e2⟩ := zc3 h2
 refine ⟨⟨a0, a1, a2⟩, ?_⟩
 unfold ltL
 have j0 := za6 cs 0 1
 rw [e0] at j0
 have j1 := za6 cs 1 32
 rw [e1] at j1
 have j2 := za6 cs 33 1
 rw [e2] at j2
 have jl : cs.drop 34 = [] := List.drop_of_length_le (by omega)
 rw [show (33 + 1) = 34 from rfl, jl, List.append_nil] at j2
 rw [← List.drop_zero (l := cs)]
 rw [← j0]
 rw [show cs.drop (0 + 1) = cs.drop 1 from rfl, ← j1]
 rw [show cs.drop (1 + 32) = cs.drop 33 from rfl, ← j2]
 try rfl
end
def Elt : Lie Lt := ⟨115, 34, ltL, by decide, yjq, yjr⟩
attribute [irreducible] lt
end
theorem zwl {a b : UInt64} (h : ∀ i, a.toNat.testBit i = b.toNat.testBit i) : a = b := UInt64.toNat_inj.1 (Nat.eq_of_testBit_eq h)
theorem yky (a b : UInt64) (i : Nat) : (a &&& b).toNat.testBit i = (a.toNat.testBit i && b.toNat.testBit i) := by rw [UInt64.toNat_and, Nat.testBit_and]
theorem z2x (a b : UInt64) (i : Nat) : (a ||| b).toNat.testBit i = (a.toNat.testBit i || b.toNat.testBit i) := by rw [UInt64.toNat_or, Nat.testBit_or]
def hasB (mask : UInt64) (v : Nat) : Bool := mask.toNat.testBit v
def ofN (f : Nat → Nat) (n : Nat) (mask : UInt64) : Nat := sumF (fun v => if hasB mask v = true then f v else 0) n
def allM : UInt64 := 18446744073709551615
section
variable (f : Nat → Nat) {n : Nat}
theorem yhd {B : Nat} (hf : ∀ v, v < n → f v ≤ B) (a : UInt64) : ofN f n a ≤ n * B := by
 unfold ofN
 have : ∀ m, m ≤ n → sumF (fun v => if hasB a v = true then f v else 0) m ≤ m * B := by
  intro m
  induction m with
  | zero => intro _; simp [sumF]
  | succ m ih =>
   intro hm
   simp only [sumF]
   have h1 := ih (by omega)
   have h2 : (if hasB a m = true then f m else 0) ≤ B := by
    split
    ·
     exact hf m (by omega)
    ·
     omega
   rw [Nat.add_mul, Nat.one_mul]
   omega
 exact this n (Nat.le_refl _)
end
def z6o (p w : Nat) : Bool := decide (2 * w ≤ 3 * p)
section
variable (f : Nat → Nat) {n : Nat}
end
def whoT (mask : UInt64) : List Nat := (List.range 64).filter (hasB mask)
theorem ym0 {mask : UInt64} {v : Nat} : v ∈ whoT mask ↔ v < 64 ∧ hasB mask v = true := by unfold whoT; rw [List.mem_filter, List.mem_range]
theorem yra (f : Nat → Nat) (mask : UInt64) {n : Nat} (hn : n ≤ 64) : (((whoT mask).filter fun v => decide (v < n)).map f).sum = ofN f n mask := by
 unfold whoT
 rw [List.filter_filter, ztv]
 unfold ofN
 have h : ∀ m, m ≤ n → sumF (fun v => if (decide (v < n) && hasB mask v) = true then f v else 0) m = sumF (fun v => if hasB mask v = true then f v else 0) m := fun m hm => zbu _ fun v hv => by
  rw [decide_eq_true (show v < n by omega), Bool.true_and]
 have tail : ∀ d, n + d ≤ 64 → sumF (fun v => if (decide (v < n) && hasB mask v) = true then f v else 0) (n + d) = sumF (fun v => if (decide (v < n) && hasB mask v) = true then f v else 0) n := by
  intro d
  induction d with
  | zero => intro _; rfl
  | succ d ih =>
   intro hd
   rw [show n + (d + 1) = (n + d) + 1 by omega]
   simp only [sumF]
   rw [ih (by omega), decide_eq_false (show ¬ n + d < n by omega)]
   simp
 have := tail (64 - n) (by omega)
 rw [show n + (64 - n) = 64 by omega] at this
 rw [this, h n (Nat.le_refl _)]
def MayS (bal : List UInt64) : Prop := 1 ≤ bal.length ∧ bal.length ≤ 8 ∧ ∀ i, i < bal.length → fn bal i ≤ 1099511627776
instance (bal : List UInt64) : Decidable (MayS bal) := by unfold MayS; exact inferInstance
def mayB (bal : List UInt64) : Bool := decide (MayS bal)
def bitN (v : Int) : Nat := if 0 ≤ v ∧ v ≤ 63 then 2 ^ v.toNat else 0
def ofS (bal : List UInt64) (mask : UInt64) : Nat := if mayB bal = true then ofN (fn bal) bal.length mask else 0
def totS (bal : List UInt64) : Nat := ofS bal allM
def yg6 (bal : List UInt64) (mask : UInt64) : Bool := mayB bal && z6o (ofS bal mask) (totS bal)
section
variable {bal : List UInt64} {mask : UInt64}
theorem zer : mayB bal = true ↔ 1 ≤ bal.length ∧ bal.length ≤ 8 ∧ ∀ i, i < bal.length → fn bal i ≤ 1099511627776 := by unfold mayB; rw [decide_eq_true_iff]; rfl
theorem yj1 (h : mayB bal = false) : ofS bal mask = 0 := by unfold ofS; rw [if_neg (by rw [h]; exact Bool.false_ne_true)]
theorem yb3 (h : mayB bal = true) : ofS bal mask = ofN (fn bal) bal.length mask := by unfold ofS; rw [if_pos h]
theorem ym9 (h : mayB bal = true) {k : Nat} (hk : k ≤ bal.length) : ofN (fn bal) k mask ≤ 8796093022208 := by
 obtain ⟨_, h2, h3⟩ := zer.1 h
 have := yhd (fn bal) (n := k) (B := 1099511627776) (fun v hv => h3 v (by omega)) mask
 omega
theorem yj0 : ofS bal mask ≤ 8796093022208 := by
 cases h : mayB bal
 ·
  rw [yj1 h]; omega
 ·
  rw [yb3 h]; exact ym9 h (Nat.le_refl _)
theorem zof {v : Nat} (h : v < 64) : bitN (v : Int) = 2 ^ v := by unfold bitN; rw [if_pos (by omega)]; rfl
theorem ykx (v : Int) : bitN v < 18446744073709551616 := by
 unfold bitN
 split
 ·
  rename_i h
  have : 2 ^ v.toNat ≤ 2 ^ 63 := Nat.pow_le_pow_right (by omega) (by omega)
  omega
 ·
  omega
end
structure Vt where
 l : List Lt
 out : UInt64
theorem Vt.ext {x y : Vt} (h0 : x.l = y.l) (h1 : x.out = y.out) : x = y := by cases x; cases y; simp_all
def lat (l : List Lt) (i : Nat) : Lt := l.getD i zlt
theorem zp9 {l : List Lt} {i : Nat} (h : i < l.length) : lat l i = l[i] := by unfold lat; simp [h]
theorem ymi {l k : List Lt} (hl : l.length = k.length) (h : ∀ i, i < k.length → lat l i = lat k i) : l = k := by
 refine List.ext_getElem hl fun i h1 h2 => ?_
 have := h i h2
 rwa [zp9 h1, zp9 h2] at this
theorem zkg {l : List Lt} {i j : Nat} {x : Lt} (h : i < l.length) : lat (l.set i x) j = if j = i then x else lat l j := by
 unfold lat
 rw [List.getD_eq_getElem?_getD, List.getElem?_set]
 by_cases e : i = j
 ·
  subst e; rw [if_pos rfl, if_pos h, if_pos rfl]; rfl
 ·
  rw [if_neg e, if_neg (fun e2 => e e2.symm), List.getD_eq_getElem?_getD]
def okAt (v : Vt) (i : Nat) : Bool := if hasB v.out i = true ∧ ¬ i < v.l.length then false else if i < v.l.length ∧ (hasB v.out i = true ∨ (lat v.l i).has = false) then decide (lat v.l i = zlt) else true
def MayV (v : Vt) : Prop := 1 ≤ v.l.length ∧ v.l.length ≤ 8 ∧ ∀ i, i < 64 → okAt v i = true
instance (v : Vt) : Decidable (MayV v) := by unfold MayV; exact inferInstance
def mayV (v : Vt) : Bool := decide (MayV v)
theorem zcu {v : Vt} : mayV v = true ↔ 1 ≤ v.l.length ∧ v.l.length ≤ 8 ∧ ∀ i, i < 64 → okAt v i = true := by unfold mayV; rw [decide_eq_true_iff]; rfl
theorem zdo {v : Vt} {i : Nat} : okAt v i = true ↔ (hasB v.out i = true → i < v.l.length) ∧ (i < v.l.length → hasB v.out i = true ∨ (lat v.l i).has = false → lat v.l i = zlt) := by
 unfold okAt
 by_cases h1 : hasB v.out i = true ∧ ¬ i < v.l.length
 ·
  rw [if_pos h1]
  exact ⟨fun e => by (cases e), fun e => absurd (e.1 h1.1) h1.2⟩
 ·
  rw [if_neg h1]
  by_cases h2 : i < v.l.length ∧ (hasB v.out i = true ∨ (lat v.l i).has = false)
  ·
   rw [if_pos h2, decide_eq_true_iff]
   exact ⟨fun e => ⟨fun _ => h2.1, fun _ _ => e⟩, fun e => e.2 h2.1 h2.2⟩
  ·
   rw [if_neg h2]
   refine ⟨fun _ => ⟨fun e => Classical.byContradiction fun n => h1 ⟨e, n⟩, fun h3 h4 => absurd ⟨h3, h4⟩ h2⟩, fun _ => rfl⟩
def zhy (n : Int) : Bool := decide (1 ≤ n ∧ n ≤ 8)
def newV (n : Int) : Vt := if zhy n = true then ⟨List.replicate n.toNat zlt, 0⟩ else ⟨[], 0⟩
def inV (v : Vt) (i : Int) : Bool := decide (0 ≤ i ∧ i < v.l.length)
def zry (v : Vt) (i : Nat) (r : Rt) (ep : UInt64) : Nat :=
 if hasB v.out i = true then 0
 else if (lat v.l i).has = true ∧ (ep.toNat < (lat v.l i).epoch.toNat ∨ (lat v.l i).epoch = ep ∧ (lat v.l i).root = r) then 0
 else if (lat v.l i).has = true ∧ (lat v.l i).epoch = ep then 2 else 1
def bitU (i : Nat) : UInt64 := UInt64.ofNat (2 ^ i)
def zre (v : Vt) (i : Nat) (r : Rt) (ep : UInt64) : Vt := match zry v i r ep with
 | 0 => v
 | 1 => ⟨v.l.set i ⟨true, r, ep⟩, v.out⟩
 | _ => ⟨v.l.set i zlt, v.out + bitU i⟩
def yqg (v : Vt) (i : Int) : Nat := if mayV v = true then (if inV v i = true then 0 else 10) else 1
def yqh (v : Vt) (i : Int) (r : Rt) (ep : UInt64) : Nat := if mayV v = true ∧ inV v i = true then zry v i.toNat r ep else 0
def putV (v : Vt) (i : Int) (r : Rt) (ep : UInt64) : Vt := if mayV v = true ∧ inV v i = true then zre v i.toNat r ep else v
def zsa (keep : List Rt) (x : Lt) : Bool := decide (x.root ∈ keep)
def zmn (v : Vt) (keep : List Rt) : Vt := if mayV v = true then ⟨v.l.map fun x => if zsa keep x = true then x else zlt, v.out⟩ else v
theorem z2w {j : Nat} (hj : j < 64) (k : Nat) : hasB (bitU j) k = decide (j = k) := by
 unfold hasB bitU
 rw [UInt64.toNat_ofNat', Nat.mod_eq_of_lt (Nat.pow_lt_pow_right (by decide) hj), Nat.testBit_two_pow]
theorem ykp {out : UInt64} {j : Nat} (hj : j < 64) (h : hasB out j = false) : out + bitU j = out ||| bitU j := by
 have h0 : out &&& bitU j = 0 := zwl fun i => by
  rw [yky]
  have h1 := z2w hj i
  unfold hasB at h h1
  rw [h1]
  by_cases e : j = i
  ·
   subst e; rw [h, Bool.false_and]; exact (Nat.zero_testBit j).symm
  ·
   rw [decide_eq_false e, Bool.and_false]; exact (Nat.zero_testBit i).symm
 apply UInt64.toBitVec_inj.1
 rw [UInt64.toBitVec_add, UInt64.toBitVec_or]
 refine BitVec.add_eq_or_of_and_eq_zero _ _ ?_
 rw [← UInt64.toBitVec_and, h0]
 rfl
theorem yaq {out : UInt64} {j : Nat} (hj : j < 64) (h : hasB out j = false) (k : Nat) : hasB (out + bitU j) k = (hasB out k || decide (j = k)) := by
 rw [ykp hj h, ← z2w hj k]
 exact z2x _ _ _
theorem ygh (k : Nat) : hasB 0 k = false := Nat.zero_testBit k
section
variable {v : Vt} {i : Nat} {r : Rt} {ep : UInt64}
theorem zk9 (h : zry v i r ep = 0) : zre v i r ep = v := by unfold zre; rw [h]; rfl
theorem zok (h : zry v i r ep = 1) : zre v i r ep = ⟨v.l.set i ⟨true, r, ep⟩, v.out⟩ := by unfold zre; rw [h]; rfl
theorem zol (h : zry v i r ep = 2) : zre v i r ep = ⟨v.l.set i zlt, v.out + bitU i⟩ := by unfold zre; rw [h]; rfl
theorem zi9 (v : Vt) (i : Nat) (r : Rt) (ep : UInt64) :
  (zry v i r ep = 0 ∧ (hasB v.out i = true ∨ (lat v.l i).has = true ∧ (ep.toNat < (lat v.l i).epoch.toNat ∨ (lat v.l i).epoch = ep ∧ (lat v.l i).root = r)))
  ∨ (zry v i r ep = 1 ∧ hasB v.out i = false ∧ ((lat v.l i).has = false ∨ (lat v.l i).epoch.toNat < ep.toNat))
  ∨ (zry v i r ep = 2 ∧ hasB v.out i = false ∧ (lat v.l i).has = true ∧ (lat v.l i).epoch = ep ∧ (lat v.l i).root ≠ r) := by
 unfold zry
 by_cases h1 : hasB v.out i = true
 ·
  rw [if_pos h1]; exact .inl ⟨rfl, .inl h1⟩
 ·
  rw [if_neg h1]
  have h1' : hasB v.out i = false := by simpa using h1
  by_cases h2 : (lat v.l i).has = true ∧ (ep.toNat < (lat v.l i).epoch.toNat ∨ (lat v.l i).epoch = ep ∧ (lat v.l i).root = r)
  ·
   rw [if_pos h2]; exact .inl ⟨rfl, .inr h2⟩
  ·
   rw [if_neg h2]
   by_cases h3 : (lat v.l i).has = true ∧ (lat v.l i).epoch = ep
   ·
    rw [if_pos h3]; exact .inr (.inr ⟨rfl, h1', h3.1, h3.2, fun e => h2 ⟨h3.1, .inr ⟨h3.2, e⟩⟩⟩)
   ·
    rw [if_neg h3]
    refine .inr (.inl ⟨rfl, h1', ?_⟩)
    by_cases h4 : (lat v.l i).has = true
    ·
     refine .inr ?_
     have h5 : ¬ ep.toNat < (lat v.l i).epoch.toNat := fun e => h2 ⟨h4, .inl e⟩
     have h6 : (lat v.l i).epoch.toNat ≠ ep.toNat := fun e => h3 ⟨h4, UInt64.toNat_inj.1 e⟩
     omega
    ·
     exact .inl (by simpa using h4)
theorem yie : (zre v i r ep).l.length = v.l.length := by
 rcases zi9 v i r ep with h | h | h
 ·
  rw [zk9 h.1]
 ·
  rw [zok h.1]; exact List.length_set
 ·
  rw [zol h.1]; exact List.length_set
theorem z72 {j : Nat} (hi : i < v.l.length) (h : j ≠ i) : lat (zre v i r ep).l j = lat v.l j := by
 rcases zi9 v i r ep with e | e | e
 ·
  rw [zk9 e.1]
 ·
  rw [zok e.1]; show lat (v.l.set i _) j = _; rw [zkg hi, if_neg h]
 ·
  rw [zol e.1]; show lat (v.l.set i _) j = _; rw [zkg hi, if_neg h]
theorem yif (hm : mayV v = true) (hi : i < v.l.length) : mayV (zre v i r ep) = true := by
 have hm' := zcu.1 hm
 obtain ⟨h1, h8, hok⟩ := hm'
 rcases zi9 v i r ep with e | ⟨e, e1, _⟩ | ⟨e, e1, _⟩
 ·
  rw [zk9 e.1]; exact hm
 ·
  rw [zok e]
  refine zcu.2 ⟨by show 1 ≤ (v.l.set i _).length; rw [List.length_set]; exact h1, by show (v.l.set i _).length ≤ 8; rw [List.length_set]; exact h8, fun j hj => zdo.2 ⟨fun q => by show j < (v.l.set i _).length; rw [List.length_set]; exact (zdo.1 (hok j hj)).1 q, fun q1 q2 => ?_⟩⟩
  have q1' : j < v.l.length := by have : j < (v.l.set i (Lt.mk true r ep)).length := q1; rwa [List.length_set] at this
  show lat (v.l.set i _) j = zlt
  have q2' : hasB v.out j = true ∨ (lat (v.l.set i ⟨true, r, ep⟩) j).has = false := q2
  rw [zkg hi] at q2' ⊢
  by_cases e2 : j = i
  ·
   subst e2; rw [if_pos rfl, e1] at q2'; rcases q2' with q | q <;> cases q
  ·
   rw [if_neg e2] at q2' ⊢; exact (zdo.1 (hok j hj)).2 q1' q2'
 ·
  rw [zol e]
  have hi64 : i < 64 := by omega
  refine zcu.2 ⟨by show 1 ≤ (v.l.set i _).length; rw [List.length_set]; exact h1, by show (v.l.set i _).length ≤ 8; rw [List.length_set]; exact h8, fun j hj => zdo.2 ⟨fun q => ?_, fun q1 q2 => ?_⟩⟩
  ·
   show j < (v.l.set i _).length
   rw [List.length_set]
   have q' : hasB (v.out + bitU i) j = true := q
   rw [yaq hi64 e1, Bool.or_eq_true, decide_eq_true_iff] at q'
   rcases q' with q | q
   ·
    exact (zdo.1 (hok j hj)).1 q
   ·
    omega
  ·
   have q1' : j < v.l.length := by have : j < (v.l.set i zlt).length := q1; rwa [List.length_set] at this
   show lat (v.l.set i zlt) j = zlt
   have q2' : hasB (v.out + bitU i) j = true ∨ (lat (v.l.set i zlt) j).has = false := q2
   rw [zkg hi] at q2' ⊢
   by_cases e2 : j = i
   ·
    rw [if_pos e2]
   ·
    rw [if_neg e2] at q2' ⊢
    rw [yaq hi64 e1, decide_eq_false (fun e => e2 e.symm), Bool.or_false] at q2'
    exact (zdo.1 (hok j hj)).2 q1' q2'
theorem yhs {z : Int} (hm : mayV v = true) (h : 0 ≤ z ∧ z < v.l.length) : putV v z r ep = zre v z.toNat r ep ∧ yqh v z r ep = zry v z.toNat r ep ∧ yqg v z = 0 := by
 have e : inV v z = true := decide_eq_true h
 unfold putV yqh yqg
 rw [if_pos ⟨hm, e⟩, if_pos ⟨hm, e⟩, if_pos hm, if_pos e]
 exact ⟨rfl, rfl, rfl⟩
theorem yco {z : Int} : (putV v z r ep).l.length = v.l.length := by unfold putV; split; (· exact yie); (· rfl)
theorem drop_len {keep : List Rt} : (zmn v keep).l.length = v.l.length := by unfold zmn; split; (· simp); (· rfl)
theorem ytf {n : Int} : (newV n).l.length ≤ 8 := by
 unfold newV
 by_cases h : zhy n = true
 ·
  have := of_decide_eq_true h
  rw [if_pos h]; simp; omega
 ·
  rw [if_neg h]; simp
theorem ym3 {n : Int} (h : zhy n = true) : mayV (newV n) = true ∧ (newV n).l.length = n.toNat ∧ (newV n).out = 0 ∧ ∀ i, lat (newV n).l i = zlt := by
 have h' := of_decide_eq_true h
 have e : newV n = ⟨List.replicate n.toNat zlt, 0⟩ := by unfold newV; rw [if_pos h]
 have hl : ∀ i, lat (List.replicate n.toNat zlt) i = zlt := fun i => by
  unfold lat
  rw [List.getD_eq_getElem?_getD, List.getElem?_replicate]
  split <;> rfl
 rw [e]
 refine ⟨zcu.2 ⟨by simp; omega, by simp; omega, fun i _ => zdo.2 ⟨fun q => ?_, fun _ _ => hl i⟩⟩, by simp, rfl, hl⟩
 have : hasB 0 i = true := q
 rw [ygh] at this
 cases this
theorem z0i {keep : List Rt} (hm : mayV v = true) : zmn v keep = ⟨v.l.map fun x => if zsa keep x = true then x else zlt, v.out⟩ := by unfold zmn; rw [if_pos hm]
theorem z26 {keep : List Rt} (hm : mayV v = true) (hi : i < v.l.length) : lat (zmn v keep).l i = if zsa keep (lat v.l i) = true then lat v.l i else zlt := by
 rw [z0i hm]
 show lat (v.l.map _) i = _
 rw [zp9 (by rw [List.length_map]; exact hi), zp9 hi, List.getElem_map]
theorem yfz {keep : List Rt} (hm : mayV v = true) : mayV (zmn v keep) = true := by
 obtain ⟨h1, h8, hok⟩ := zcu.1 hm
 refine zcu.2 ⟨by rw [drop_len]; exact h1, by rw [drop_len]; exact h8, fun j hj => zdo.2 ⟨fun q => ?_, fun q1 q2 => ?_⟩⟩
 ·
  rw [drop_len]
  rw [z0i hm] at q
  exact (zdo.1 (hok j hj)).1 q
 ·
  rw [drop_len] at q1
  rw [z26 hm q1] at q2 ⊢
  by_cases e : zsa keep (lat v.l j) = true
  ·
   rw [if_pos e] at q2 ⊢
   refine (zdo.1 (hok j hj)).2 q1 ?_
   rw [z0i hm] at q2
   exact q2
  ·
   rw [if_neg e]
end
def forB (l : List Nd) (v : Vt) (i k : Nat) : Bool := (lat v.l k).has && decide ((lat v.l k).root = (nd l i).root)
def newB (l : List Nd) (v o : Vt) (i k : Nat) : Bool := forB l v i k && decide (lat v.l k ≠ lat o.l k)
def selF (p : Nat → Bool) (f : Nat → Nat) (n : Nat) : Nat := sumF (fun k => if p k = true then f k else 0) n
theorem yh0 {p : Nat → Bool} {f : Nat → Nat} {n : Nat} (h : p n = true) : selF p f (n + 1) = selF p f n + f n := by
 show sumF _ n + (if p n = true then f n else 0) = _
 rw [if_pos h]; rfl
theorem yc1 {p : Nat → Bool} {f : Nat → Nat} {n : Nat} (h : p n = false) : selF p f (n + 1) = selF p f n := by
 show sumF _ n + (if p n = true then f n else 0) = _
 rw [if_neg (by rw [h]; exact Bool.false_ne_true), Nat.add_zero]; rfl
theorem ynt (p : Nat → Bool) (f : Nat → Nat) (n : Nat) : selF p f n ≤ sumF f n := z16 _ fun k _ => by split <;> omega
theorem ztu {f : Nat → Nat} {B : Nat} : ∀ n, (∀ k, k < n → f k ≤ B) → sumF f n ≤ n * B
 | 0, _ => by simp [sumF]
 | n + 1, h => by
  simp only [sumF]
  have h1 := ztu n (fun k hk => h k (by omega))
  have h2 := h n (by omega)
  rw [Nat.add_mul, Nat.one_mul]
  omega
def ownF (l : List Nd) (v : Vt) (bal : List UInt64) (i : Nat) : Nat := selF (forB l v i) (fn bal) bal.length
def zv8 (l : List Nd) (v o : Vt) (bal : List UInt64) (i : Nat) : Nat := selF (newB l v o i) (fn bal) bal.length
def fitB (l : List Nd) (v : Vt) (bal : List UInt64) : Bool := decide (MayT l) && (mayV v && (mayB bal && decide (v.l.length = bal.length)))
def ownL (l : List Nd) (v : Vt) (bal : List UInt64) : List UInt64 := if fitB l v bal = true then zc9 (ownF l v bal) l.length else []
def wtsL (l : List Nd) (v : Vt) (bal : List UInt64) : List UInt64 := if fitB l v bal = true then subL l (ownL l v bal) else []
def ofB (l : List Nd) (was is : Vt) (bal : List UInt64) : Bool := fitB l was bal && fitB l is bal
def zr8 (l : List Nd) (was is : Vt) (bal : List UInt64) : List UInt64 := if ofB l was is bal = true then zc9 (zv8 l is was bal) l.length else []
def zju (l : List Nd) (was is : Vt) (bal : List UInt64) : List UInt64 := if ofB l was is bal = true then zc9 (zv8 l was is bal) l.length else []
section
variable {l : List Nd} {v o was is : Vt} {bal : List UInt64}
theorem zgm : fitB l v bal = true ↔ MayT l ∧ mayV v = true ∧ mayB bal = true ∧ v.l.length = bal.length := by
 unfold fitB
 rw [Bool.and_eq_true, Bool.and_eq_true, Bool.and_eq_true, decide_eq_true_iff, decide_eq_true_iff]
theorem yb4 : ofB l was is bal = true ↔ fitB l was bal = true ∧ fitB l is bal = true := by unfold ofB; rw [Bool.and_eq_true]
theorem zvs (h : fitB l v bal = true) : ownL l v bal = zc9 (ownF l v bal) l.length := by unfold ownL; rw [if_pos h]
theorem ync (h : fitB l v bal = false) : ownL l v bal = [] := by unfold ownL; rw [if_neg (by rw [h]; exact Bool.false_ne_true)]
theorem zwt (h : fitB l v bal = true) : wtsL l v bal = subL l (ownL l v bal) := by unfold wtsL; rw [if_pos h]
theorem yoe (h : fitB l v bal = false) : wtsL l v bal = [] := by unfold wtsL; rw [if_neg (by rw [h]; exact Bool.false_ne_true)]
theorem zyt (h : ofB l was is bal = true) : zr8 l was is bal = zc9 (zv8 l is was bal) l.length := by unfold zr8; rw [if_pos h]
theorem z4c (h : ofB l was is bal = false) : zr8 l was is bal = [] := by unfold zr8; rw [if_neg (by rw [h]; exact Bool.false_ne_true)]
theorem z6k (h : ofB l was is bal = true) : zju l was is bal = zc9 (zv8 l was is bal) l.length := by unfold zju; rw [if_pos h]
theorem ybl (h : ofB l was is bal = false) : zju l was is bal = [] := by unfold zju; rw [if_neg (by rw [h]; exact Bool.false_ne_true)]
theorem ykq (h : mayB bal = true) {k : Nat} (hk : k ≤ bal.length) : sumF (fn bal) k ≤ 8796093022208 := by
 obtain ⟨_, h2, h3⟩ := zer.1 h
 have := ztu (f := fn bal) (B := 1099511627776) k (fun j hj => h3 j (by omega))
 omega
theorem yc3 (h : mayB bal = true) (p : Nat → Bool) {k : Nat} (hk : k ≤ bal.length) : selF p (fn bal) k ≤ 8796093022208 := Nat.le_trans (ynt _ _ _) (ykq h hk)
theorem zyp (h : mayB bal = true) (i : Nat) : ownF l v bal i ≤ 8796093022208 := yc3 h _ (Nat.le_refl _)
theorem yj2 (h : fitB l v bal = true) {i : Nat} (hi : i < l.length) : fn (ownL l v bal) i = ownF l v bal i := by
 rw [zvs h]
 exact z0r hi (by have := zyp (l := l) (v := v) (zgm.1 h).2.2.1 i; omega)
theorem ynd (h : fitB l v bal = true) : (ownL l v bal).length = l.length := by rw [zvs h, zhn]
theorem yd7 (h : fitB l v bal = true) : zh5 l (ownL l v bal) = true :=
 z15 (zgm.1 h).1 (ynd h) (b := 8796093022208) (by omega) fun k hk => by rw [yj2 h hk]; exact zyp (zgm.1 h).2.2.1 k
theorem zrp (h : fitB l v bal = true) : (wtsL l v bal).length = l.length := by rw [zwt h, zwc (yd7 h)]
theorem z4w (h : fitB l v bal = true) {i : Nat} (hi : i < l.length) : fn (wtsL l v bal) i = subT l (ownF l v bal) i := by
 rw [zwt h, ydh (yd7 h) hi]
 exact ydk i fun k hk => yj2 h hk
end
structure Lk where
 s : Ck
 t : Ck
 mask : UInt64
theorem Lk.ext {x y : Lk} (h0 : x.s = y.s) (h1 : x.t = y.t) (h2 : x.mask = y.mask) : x = y := by cases x; cases y; simp_all
def oneB (a b : Lk) : Bool := decide (a.s = b.s ∧ a.t = b.t)
def lkAt (ls : List Lk) (i : Nat) : Lk := ls.getD i ⟨zcc, zcc, 0⟩
section
variable {ls : List Lk}
end
end Go.Proofs.YtkalofboioffiaaGreat
