import Derived.Test.YtkalofboioffiaaGreatT25
import Derived.RangeFuncBox
import Derived.DeepKeys4
namespace Go.Proofs.YtkalofboioffiaaGreat
open Go.RowKit
set_option maxRecDepth 200000
set_option maxHeartbeats 64000000
section
open Go.Shelf
attribute [local go_sem] Oper.semAt_some
@[local go_sem ↓ high] theorem ygz {P : Program} (l : Option Nat) (ρ : Operand → Value) (o : Oper) (w : World) (h : ∀ c, o.op ≠ .defer c) : (Oper.semAt l ρ o).run P w = (execOp ρ o).run P w := by rw [Oper.semAt_eq l ρ o h]
theorem zu0 (p : Option Addr) (n c : Nat) (w : World) :
  Calls Tryz.prog 180 #[.slice p n c] w fun e w' => e = .returned (.func (.func 203) #[] #[.pointer (some ⟨w.heap.size, 0, none⟩)]) ∧ w' = w.alloc (.cells #[.slice p n c] 31) := by
 go_enter Tryz.func180, Tryz.ntmps180
 go_wp2_with fail
 go_ret
 exact ⟨rfl, rfl⟩
theorem zk6 (d s0 n₀ D bx n c : Nat) (p : Option Addr) (L : List Lk) (w : World) (hs : s0 ≤ n₀) (hn₀ : n₀ ≤ w.heap.size) (hn : n ≤ 1000) (hl : L.length = n) (q1 : bx < n₀) (q2 : bx ≠ D)
  (t0 : w.heap[bx]? = some (.cells #[.slice p n c] 31 (0, 0))) (hS : SlE Elk w (.slice p n c) L) (hq : ∀ b o, p = some ⟨b, o, none⟩ → 0 < n → b < n₀ ∧ b ≠ D) :
  SeqStopsK Fence.wide d Tryz.prog 203 #[.pointer (some ⟨bx, 0, none⟩)] (fun x : Lk => #[Value.agg (lk x)]) (But s0 n₀ D) (fun ys => ys = L) (fun pre => pre <+: L) L.length w := by
 intro lo J Jx W hW hAJ _ hY hJ0
 have HT : Hid (∀ W', But s0 n₀ D w W' → W'.heap[bx]? = some (.cells #[.slice p n c] 31 (0, 0))) := fun W' g => g.blk q1 q2 t0
 have HX : Hid (∀ j, j < n → ∃ b o, p = some ⟨b, o, none⟩ ∧ ∀ W', But s0 n₀ D w W' → ldA W' (.pointer (some ⟨b, o + j * 67, none⟩)) 67 = some (lk (lkAt L j))) := fun j hj => by
  obtain ⟨b, o, e, _, x⟩ := zes hS (by omega)
  obtain ⟨h1, h2⟩ := hq b o e (by omega)
  exact ⟨b, o, e, fun W' g => zi9 (zjl (g.block b h1 h2) x) (by omega)⟩
 have HG0 : Hid (But s0 n₀ D w W) := But.of_below (hW.mono hn₀) hs
 have HS : Hid (∀ W', But s0 n₀ D w W' → ∀ W2, Below W'.heap.size W' W2 → But s0 n₀ D w W2) := fun W' g W2 k => g.then k hs (Nat.le_trans hn₀ g.below.size)
 have HAJ : Hid (∀ pre W1 W', J pre W1 → Below W1.heap.size W1 W' → J pre W') := fun pre W1 W' hj g => hAJ pre W1 W' none hj (zbd g) (fun r e => by cases e)
 have HY := Lib.hid hY
 have HJ0 := Lib.hid hJ0
 have HN := Lib.hid hn
 have HL := Lib.hid hl
 clear hY hJ0 hW hAJ t0 hS hq hs hn₀ hn hl q1 q2
 have e0 := (zam (HT.out _ HG0.out)).1
 refine callsIn_of_wp Tryz.func203 rfl trivial ?_ rfl
 simp only [Tryz.ntmps203, List.size_toArray, List.length_cons, List.length_nil, Nat.reduceAdd, Nat.reduceSub, Array.replicate_succ, Array.replicate_zero, List.push_toArray, List.append_toArray, List.nil_append, List.cons_append]
 gi_wp2
 clear e0
 gi_loopw [7] (fun u wr => ∃ (j : Nat), u = .int .i64 (j : Int) ∧ j ≤ n ∧ But s0 n₀ D w wr ∧ J (L.take j) wr) (fun u _ => n - (intOf u).toNat)
 case atStart => exact ⟨0, rfl, Nat.zero_le _, HG0.out, HJ0.out⟩
 case round =>
  obtain ⟨j, rfl, hj, hg, hjj⟩ := hrel
  have HG := Lib.hid hg
  have HJ := Lib.hid hjj
  clear hg hjj
  by_cases hlt : j < n
  ·
   have d0 : decide ((j : Int) < (n : Int)) = true := decide_eq_true (by omega)
   have d0' : decide (j < n) = true := decide_eq_true hlt
   have i0 : (0 : Int) ≤ (j : Int) := by omega
   have i1 : (j : Int) < (n : Int) := by omega
   have u1 : (j : Int) + 1 < 10000 := by have := HN.out; omega
   have HLT := Lib.hid hlt
   obtain ⟨b, o, rfl, hx⟩ := HX.out j hlt
   have y1 := hx wr HG.out
   have HTk : Hid (L.take (j + 1) = L.take j ++ [lkAt L j]) := by
    show _ = _
    rw [zd6 (by have := HL.out; omega), List.take_add_one, List.getElem?_eq_getElem (by have := HL.out; omega)]
    rfl
   have HPf : Hid (L.take j ++ [lkAt L j] <+: L) := by show _ <+: _; rw [← HTk.out]; exact List.take_prefix _ _
   generalize lkAt L j = X at *
   have HG5 : Hid (But s0 n₀ D w (wr.alloc (.cells (lk X) 118))) := HS.out _ HG.out _ below1
   have HJ5 : J (L.take j) (wr.alloc (.cells (lk X) 118)) := HAJ.out _ _ _ HJ.out below1
   obtain ⟨fn, tmps, assign, body, hy, hR⟩ := HY.out _ X _ HJ5 (by rw [List.length_take, HL.out]; omega)
   have HRR := Lib.hid hR
   clear hR hx hlt hj HJ5
   gi_wp2
   refine ⟨fun h => (by cases h), RoundIn.mono HRR.out ?_⟩
   rintro e W3 (⟨rfl, hJ3, hk3⟩ | ⟨rfl, hJx3⟩)
   ·
    have HG3 := Lib.hid (HG5.out.trans hk3)
    rw [← HTk.out] at hJ3
    have HJ3 := Lib.hid hJ3
    clear hJ3 hk3
    gi_wp2
    go_roundw
    case rel => exact ⟨j + 1, by go_num, HLT.out, HG3.out, HJ3.out⟩
    case measure => simp [intOf]; have := HLT.out; omega
   ·
    have HJ3 := Lib.hid hJx3
    clear hJx3
    gi_wp2
    refine bodyPost_ret (results_none rfl _ _ _) rfl ?_
    exact ⟨⟨_, rfl⟩, .inr ⟨_, HPf.out, HJ3.out⟩⟩
  ·
   obtain rfl : j = n := by omega
   have HF : Hid (L.take j = L) := List.take_of_length_le (by rw [HL.out]; exact Nat.le_refl _)
   clear hlt
   gi_wp2
   go_end0
   exact ⟨⟨_, rfl⟩, .inl ⟨_, HF.out, HJ.out⟩⟩
theorem zea : ∀ args w, (callFunc 203 args).run Tryz.prog w = .ok (.enter 203 args) w := za7 Tryz.func203 (by kernel_rfl) (by kernel_rfl)
end
theorem zgk : ∀ args w, (callFunc 21 args).run Tryz.prog w = .ok (.enter 21 args) w := za7 Tryz.func21 (by kernel_rfl) (by kernel_rfl)
theorem zkd : ∀ args w, (callFunc 23 args).run Tryz.prog w = .ok (.enter 23 args) w := za7 Tryz.func23 (by kernel_rfl) (by kernel_rfl)
theorem zpw (s : SlV) (l : List Nd) (c d : Ck) (w : World) (h : SlE Ene w (sv s) l) :
  Calls Tryz.prog 61 #[.agg (tr ⟨s⟩), .agg (cc c), .agg (cc d)] w fun e w' => e = .returned (.bool (zbz l c d)) ∧ Below w.heap.size w w' := by
 have HF := Lib.hid (fun r W (g : Below w.heap.size w W) => zeh s l r W (zad g h))
 have HA := Lib.hid (fun W (g : Below w.heap.size w W) => zhb s l (zaz l d.root) (zaz l c.root) W (zad g h))
 obtain ⟨r, hr⟩ : ∃ r, r = zbz l c d := ⟨_, rfl⟩
 rw [← hr]
 rw [show zbp l (zaz l d.root) (zaz l c.root) = r from hr.symm] at HA
 have HFc := Lib.hid (HF.out c.root)
 have HFd := Lib.hid (HF.out d.root)
 generalize zaz l c.root = x at *
 generalize zaz l d.root = y at *
 obtain ⟨W0, hW0⟩ : ∃ W0, W0 = ((w.alloc (.cells (tr ⟨s⟩) 24)).alloc (.cells (cc c) 36)).alloc (.cells (cc d) 36) := ⟨_, rfl⟩
 obtain ⟨hB, k0, k1, k2, hz0⟩ := zf2 w _ _ _ _ _ _ W0 hW0
 have HB := Lib.hid hB
 have HW := Lib.hid hW0
 have z0 := (zai k0).2.1
 have z1 := zb0 k1
 have z2 := zb0 k2
 clear hW0 h hB k0 k1 k2 hz0 hr HF
 go_enter Tryz.func61, Tryz.ntmps61
 go_upto_region 1 with fail
 rw [← HW.out]
 have L0 := fun p : Wd W0.drew => zbb z0 (by decide) p
 have L1 := fun p : Wd W0.drew => zbb z1 (by decide) p
 have L2 := fun p : Wd W0.drew => zbb z2 (by decide) p
 clear z0 z1 z2
 refine zaj [4, 8, 9] (by kernel_rfl) (by kernel_rfl) (by kernel_rfl) ?_
 repeat (first | (refine zae rfl rfl _ zaf ?_; (first | go_big_quiet_step (fail) | quiet_step (fail)); refine wpQuiet_nil ?_) | refine zag rfl ?_)
 refine zan rfl rfl rfl zgk #[.agg (tr ⟨s⟩), .agg (rc d.root)] rfl ?_
 refine (HFd.out _ (zab HB.out (zah (Below.refl _ _) 1))).mono ?_
 rintro e u ⟨rfl, g⟩
 refine ⟨_, rfl, g, ?_⟩
 simp only [Act.put, List.setIfInBounds_toArray, List.set_cons_zero, List.set_cons_succ]
 have G : Hid (Below W0.heap.size W0 u) := zab (zah (Below.refl _ _) 1) g
 clear g
 repeat (first | (refine zae rfl rfl _ zaf ?_; (first | go_big_quiet_step (fail) | quiet_step (fail)); refine wpQuiet_nil ?_) | refine zag rfl ?_)
 refine zan rfl rfl rfl zgk #[.agg (tr ⟨s⟩), .agg (rc c.root)] rfl ?_
 refine (HFc.out _ (zab HB.out G.out)).mono ?_
 rintro e u2 ⟨rfl, g⟩
 refine ⟨_, rfl, g, ?_⟩
 simp only [Act.put, List.setIfInBounds_toArray, List.set_cons_zero, List.set_cons_succ]
 replace G : Hid (Below W0.heap.size W0 u2) := zab G.out g
 clear g
 repeat (first | (refine zae rfl rfl _ zaf ?_; (first | go_big_quiet_step (fail) | quiet_step (fail)); refine wpQuiet_nil ?_) | refine zag rfl ?_)
 refine zan rfl rfl rfl zkd #[.agg (tr ⟨s⟩), .int .i64 y, .int .i64 x] rfl ?_
 refine (HA.out _ (zab HB.out G.out)).mono ?_
 rintro e u3 ⟨rfl, g⟩
 refine ⟨_, rfl, g, ?_⟩
 simp only [Act.put, List.setIfInBounds_toArray, List.set_cons_zero, List.set_cons_succ]
 replace G : Hid (Below W0.heap.size W0 u3) := zab G.out g
 clear g
 repeat (first | (refine zae rfl rfl _ zaf ?_; (first | go_big_quiet_step (fail) | quiet_step (fail)); refine wpQuiet_nil ?_) | refine zag rfl ?_)
 refine za3 ?_
 clear L0 L1 L2
 go_wp2_with fail
 go_ret
 exact ⟨rfl, zab HB.out G.out⟩
structure Ed where
 s : Ck
 t : Ck
theorem Ed.ext {x y : Ed} (h0 : x.s = y.s) (h1 : x.t = y.t) : x = y := by cases x; cases y; simp_all
instance : DecidableEq Ed := fun x y => decidable_of_iff (x.s = y.s ∧ x.t = y.t) ⟨fun h => Ed.ext h.1 h.2, fun h => by subst h; exact ⟨rfl, rfl⟩⟩
def edL (x : Ed) : List Value := (cc x.s).toList ++ ((cc x.t).toList)
def ed (x : Ed) : Array Value := (edL x).toArray
theorem zvy (x : Ed) : (ed x).toList = edL x := rfl
theorem yii (x : Ed) : (edL x).length = 66 := by simp [edL, zax]
theorem zgu (x : Ed) : (ed x).size = 66 := by rw [← Array.length_toList, zvy, yii]
theorem yij (x : Ed) : ∀ v ∈ edL x, v.oneCell' = true := by
 intro v hv
 unfold edL at hv
 simp only [List.mem_append] at hv
 rcases hv with hv | hv
 ·
  exact zfk _ v (by rw [zbm] at hv; exact hv)
 ·
  exact zfk _ v (by rw [zbm] at hv; exact hv)
@[go_sem] theorem yms (x : Ed) : okA 66 (.agg (ed x)) = true := by
 show ((ed x).size == 66 && (ed x).all (·.oneCell')) = true
 rw [show (ed x).all (·.oneCell') = true from zdo (yij x), zgu]; rfl
def zed : Ed := ⟨zcc, zcc⟩
theorem z8w (w : World) : (zeroValue 160).run Tryz.prog w = .ok (.agg (ed zed)) w := by kernel_rfl
@[go_sem ↓] theorem yk6 (ρ : Operand → Value) (dst : Option Tmp) (x y : Operand) (ty : TypeId) (pos : String) (after : Array Edge) (guard : Option (Nat × Bool)) (w : World) :
  (execOp ρ { dst, op := .store 160 x y, type := ty, pos, after, guard }).run Tryz.prog w = zhv (wrA w (ρ x) 66 && okA 66 (ρ y)) (stA w (ρ x) (ρ y)) (zbf Tryz.prog ρ { dst, op := .store 160 x y, type := ty, pos, after, guard } w) :=
 zbe Tryz.sizeOf160 ρ dst x y ty pos after guard w
@[go_sem ↓] theorem ykg (ρ : Operand → Value) (dst : Option Tmp) (ty : TypeId) (pos : String) (after : Array Edge) (guard : Option (Nat × Bool)) (w : World) :
  (execOp ρ { dst, op := .alloc 160, type := ty, pos, after, guard }).run Tryz.prog w = .ok (.value (.pointer (some ⟨w.heap.size, 0, none⟩))) (w.alloc (.cells (ed zed) 160)) := by
 unfold execOp
 simp only [Instr.alloc, Sem.run_bind, z8w, Result.andThen_ok]
 rfl
def places_ed : List (Nat × Nat) := [(0, 33), (33, 33)]
theorem z46 : ∀ w : World, ((Tryz.prog.fieldsOf 160).mapM (m := Sem) fun f => do pure (f.offset, ← Go.sizeOf f.type)).run Tryz.prog w = .ok places_ed.toArray w := fun _ => by kernel_rfl
theorem zsk : Tryz.prog.underlying 160 = some (.struct (Tryz.prog.fieldsOf 160)) := by kernel_rfl
theorem yfc : (Tryz.prog.fieldsOf 160).toList.map (fun f => (f.name, f.type, f.offset)) = [("s", 36, 0), ("t", 36, 33)] := by kernel_rfl
@[go_sem ↓] theorem ykt (ρ : Operand → Value) (dst : Option Tmp) (p : Nat × Operand) (ps : List (Nat × Operand)) (ty : TypeId) (pos : String) (after : Array Edge) (guard : Option (Nat × Bool)) (w : World) :
  (execOp ρ { dst, op := .build 160 (p :: ps).toArray, type := ty, pos, after, guard }).run Tryz.prog w = zgh ((zgp places_ed (ed zed) ((p.1, ρ p.2) :: ps.map fun p => (p.1, ρ p.2))).map .agg) w (zbf Tryz.prog ρ { dst, op := .build 160 (p :: ps).toArray, type := ty, pos, after, guard } w) :=
 zbv z8w zsk z46 ρ dst (p :: ps).toArray ty pos after guard w
attribute [go_sem] places_ed zgu
theorem zqv (x : Ed) : edL x = ([]) ++ ((cc x.s).toList ++ ((cc x.t).toList)) ∧ ([] : List Value).length = 0 := by
 constructor
 ·
  unfold edL; simp
 ·
  rfl
theorem zyi (x : Ed) : (ed x).extract 0 (0 + 33) = cc x.s := zck (zqv x).1 (zqv x).2 (zax _)
theorem yag (x : Ed) (y : Ck) : zba (ed x) 0 (cc y) = ed { x with s := y } := by
 rw [za6 (c := ed x) (zqv x).1 (zqv x).2 (by simp [zax])]
 simp [ed, edL]
theorem zqw (x : Ed) : edL x = ((cc x.s).toList) ++ ((cc x.t).toList ++ ([])) ∧ ((cc x.s).toList : List Value).length = 33 := by
 constructor
 ·
  unfold edL; simp
 ·
  simp [zax]
theorem zyj (x : Ed) : (ed x).extract 33 (33 + 33) = cc x.t := zck (zqw x).1 (zqw x).2 (zax _)
theorem yah (x : Ed) (y : Ck) : zba (ed x) 33 (cc y) = ed { x with t := y } := by
 rw [za6 (c := ed x) (zqw x).1 (zqw x).2 (by simp [zax])]
 simp [ed, edL]
attribute [go_sem] yag yah
theorem zpe : Tryz.prog.cellsOf 160 = 66 := by kernel_rfl
section
open Go.Maps
def z1i (c : Ck) : List Lit := Lit.int .u64 (c.epoch.toNat : Int) :: z1h c.root
theorem ylw : laidOutB Tryz.prog = true := by kernel_rfl
theorem ylv (D : Nat) (r : Rt) (i : Nat) : Tryz.prog.keyLits (D + 1) 5 [.int .u8 (at8 r i)] = some [Lit.int .u8 (at8 r i)] := by
 unfold Program.keyLits
 simp only [Tryz.underlying5]
 rw [if_pos ⟨trivial, wf8 r i⟩]
theorem wf64 (e : UInt64) : (Lit.int .u64 (e.toNat : Int)).wf = true := by
 have := e.toNat_lt
 show (decide (IntKind.u64.min ≤ (e.toNat : Int)) && decide ((e.toNat : Int) ≤ IntKind.u64.max)) = true
 rw [Bool.and_eq_true, decide_eq_true_eq, decide_eq_true_eq, show IntKind.u64.min = 0 from rfl, show IntKind.u64.max = 18446744073709551615 from rfl]
 omega
theorem yi1 (D : Nat) (e : UInt64) : Tryz.prog.keyLits (D + 1) 27 [num e] = some [Lit.int .u64 (e.toNat : Int)] := by
 show Tryz.prog.keyLits (D + 1) 27 [.int .u64 (e.toNat : Int)] = _
 unfold Program.keyLits
 simp only [Tryz.underlying27]
 rw [if_pos ⟨trivial, wf64 e⟩]
theorem yfz (D : Nat) (r : Rt) : Tryz.prog.keyLits (D + 2) 34 (rc r).toList = some (z1h r) := by
 unfold Program.keyLits
 simp only [Tryz.underlying34]
 rw [if_pos (by rw [arr_root.size]; simp [zay]), arr_root.one]
 rw [zri _ (List.range 32) ((List.range 32).map fun i => [Lit.int .u8 (at8 r i)]) (by simp) (fun j x y hx hy => ?_)]
 ·
  have hfl : ∀ l : List Nat, (l.map fun i => [Lit.int .u8 (at8 r i)]).flatten = l.map fun i => Lit.int .u8 (at8 r i) := fun l => by induction l with | nil => rfl | cons a t ih => simp [ih]
  simp [hfl, z1h]
 ·
  have hj : j < 32 := by simpa using (List.getElem?_eq_some_iff.1 hx).1
  have ex : x = j := by
   obtain ⟨_, e⟩ := List.getElem?_eq_some_iff.1 hx
   simpa using e.symm
  subst ex
  have ey : y = [Lit.int .u8 (at8 r x)] := by
   rw [List.getElem?_map, hx] at hy
   simpa using hy.symm
  subst ey
  have hg : ((rc r).toList.drop (x * 1)).take 1 = [.int .u8 (at8 r x)] := by
   have hl : x < (rc r).toList.length := by simp [zay]; exact hj
   rw [Nat.mul_one, List.drop_eq_getElem_cons hl]
   simp [zqh]
  rw [hg]
  exact ylv D r x
theorem ydm {D : Nat} {t : TypeId} {fs : Array Field} {n1 n2 : String} {t1 t2 : TypeId} {o1 o2 c1 c2 : Nat} {cs : List Value} {a b : List Lit} (hu : Tryz.prog.underlying t = some (.struct fs)) (hf : fs.toList.map (fun f => (f.name, f.type, f.offset)) = [(n1, t1, o1), (n2, t2, o2)])
  (hn : n1 ≠ "_" ∧ n2 ≠ "_") (hc : Tryz.prog.cellsOf t = cs.length) (h1 : Tryz.prog.cellsOf t1 = c1) (h2 : Tryz.prog.cellsOf t2 = c2) (ha : Tryz.prog.keyLits D t1 ((cs.drop o1).take c1) = some a) (hb : Tryz.prog.keyLits D t2 ((cs.drop o2).take c2) = some b) :
  Tryz.prog.keyLits (D + 1) t cs = some (a ++ b) := by
 obtain ⟨fl⟩ := fs
 match fl, hf with
 | [f1, f2], hf =>
  simp only [List.map_cons, List.map_nil, List.cons.injEq, Prod.mk.injEq, and_true] at hf
  obtain ⟨⟨e1, e2, e3⟩, e4, e5, e6⟩ := hf
  unfold Program.keyLits
  simp only [hu]
  rw [if_pos ⟨hc.symm, by simp [e1, e4, hn.1, hn.2]⟩]
  simp [e2, e3, e5, e6, h1, h2, ha, hb]
theorem yfy (D : Nat) (c : Ck) : Tryz.prog.keyLits (D + 3) 36 (cc c).toList = some (z1i c) := by
 refine ydm (a := [Lit.int .u64 (c.epoch.toNat : Int)]) (b := z1h c.root) (c1 := 1) (c2 := 32) zge zq3 (by decide) (by rw [zbw, Array.length_toList, zax]) (by kernel_rfl) (by kernel_rfl) ?_ ?_
 ·
  rw [show ((cc c).toList.drop 0).take 1 = [num c.epoch] from ?_]
  ·
   exact yi1 (D + 1) c.epoch
  ·
   rw [zbm]; unfold ccL; simp
 ·
  rw [show ((cc c).toList.drop 1).take 32 = (rc c.root).toList from ?_]
  ·
   exact yfz D c.root
  ·
   rw [zbm]; unfold ccL
   simp only [List.cons_append, List.nil_append, List.drop_succ_cons, List.drop_zero]
   exact List.take_of_length_le (by rw [Array.length_toList, zay]; exact Nat.le_refl _)
def ck (c : Ck) : Lit := .string (keyBytes (z1i c))
theorem ymh : (36 : TypeId) < Tryz.prog.types.size := of_decide_eq_true (by kernel_rfl)
theorem yj8 : (match Tryz.prog.underlying 36 with | some (.array _ _) | some (.struct _) => true | _ => false) = true := by kernel_rfl
theorem keyed_cc : Keyed Tryz.prog 36 := Keyed.of_law (deep_law_laid ylw (m := 3) (by omega) ymh (by kernel_rfl) yj8)
theorem zi3 (x : Ck) : keyOf Tryz.prog 36 (.agg (cc x)) = some (ck x) := by
 have hkt : Tryz.prog.keyType 36 = true := by kernel_rfl
 have hf : (Value.agg (cc x)).formed Tryz.prog 36 = true := by simp [Value.formed, zbw, zax]
 obtain ⟨D, hD⟩ : ∃ D, Tryz.prog.types.size = D + 2 := ⟨Tryz.prog.types.size - 2, by have : 2 ≤ Tryz.prog.types.size := of_decide_eq_true (by kernel_rfl); omega⟩
 unfold keyOf
 simp only [zge]
 rw [if_pos (by rw [hkt, hf]; rfl), hD]
 show (Tryz.prog.keyLits (D + 3) 36 (cc x).toList).map _ = _
 rw [yfy]; rfl
theorem z35 {a b : Ck} (h : cc a = cc b) : a = b := by
 have h1 := ze3 a; have h2 := zfw a
 rw [h, ze3] at h1
 rw [h, zfw] at h2
 refine Ck.ext ?_ (yd2 h2).symm
 have : (b.epoch.toNat : Int) = (a.epoch.toNat : Int) := by
  injection h1 with h1
  injection h1
 exact UInt64.toNat_inj.1 (by omega)
theorem yic {a b : Ck} (h : ck a = ck b) : a = b := by
 have := keyed_cc.inj (zi3 a) (by rw [h]; exact zi3 b)
 injection this with e
 exact z35 e
theorem zys (x : Ck) : WideAt.IsKeyLit (ck x) := keyed_cc.key (zi3 x)
end
section
open Go.Maps
def yi7 (x : Ed) : List Lit := z1i x.s ++ z1i x.t
def ek (x : Ed) : Lit := .string (keyBytes (yi7 x))
theorem ylx : laidOutB Tryz.prog = true := by kernel_rfl
theorem ymi : (160 : TypeId) < Tryz.prog.types.size := of_decide_eq_true (by kernel_rfl)
theorem yj9 : (match Tryz.prog.underlying 160 with | some (.array _ _) | some (.struct _) => true | _ => false) = true := by kernel_rfl
theorem keyed_ed : Keyed Tryz.prog 160 := Keyed.of_law (deep_law_laid ylx (m := 4) (by omega) ymi (by kernel_rfl) yj9)
theorem ylu (D : Nat) (x : Ed) : Tryz.prog.keyLits (D + 4) 160 (ed x).toList = some (yi7 x) := by
 refine ydm (a := z1i x.s) (b := z1i x.t) (c1 := 33) (c2 := 33) zsk yfc (by decide) (by rw [zpe, Array.length_toList, zgu]) zbw zbw ?_ ?_
 ·
  rw [show ((ed x).toList.drop 0).take 33 = (cc x.s).toList from ?_]
  ·
   exact yfy D x.s
  ·
   rw [zvy]; unfold edL
   rw [List.drop_zero, List.take_append_of_le_length (by simp [zax])]
   exact List.take_of_length_le (by rw [Array.length_toList, zax]; exact Nat.le_refl _)
 ·
  rw [show ((ed x).toList.drop 33).take 33 = (cc x.t).toList from ?_]
  ·
   exact yfy D x.t
  ·
   rw [zvy]; unfold edL
   rw [List.drop_append_of_le_length (by simp [zax]), List.drop_of_length_le (by rw [Array.length_toList, zax]; exact Nat.le_refl _), List.nil_append]
   exact List.take_of_length_le (by rw [Array.length_toList, zax]; exact Nat.le_refl _)
theorem zth (x : Ed) : keyOf Tryz.prog 160 (.agg (ed x)) = some (ek x) := by
 have hkt : Tryz.prog.keyType 160 = true := by kernel_rfl
 have hf : (Value.agg (ed x)).formed Tryz.prog 160 = true := by simp [Value.formed, zpe, zgu]
 obtain ⟨D, hD⟩ : ∃ D, Tryz.prog.types.size = D + 3 := ⟨Tryz.prog.types.size - 3, by have : 3 ≤ Tryz.prog.types.size := of_decide_eq_true (by kernel_rfl); omega⟩
 unfold keyOf
 simp only [zsk]
 rw [if_pos (by rw [hkt, hf]; rfl), hD]
 show (Tryz.prog.keyLits (D + 4) 160 (ed x).toList).map _ = _
 rw [ylu]; rfl
theorem yih {a b : Ed} (h : ed a = ed b) : a = b := by
 have h1 := zyi a; have h2 := zyj a
 rw [h, zyi] at h1
 rw [h, zyj] at h2
 exact Ed.ext (z35 h1).symm (z35 h2).symm
theorem yik {a b : Ed} (h : ek a = ek b) : a = b := by
 have := keyed_ed.inj (zth a) (by rw [h]; exact zth b)
 injection this with e
 exact yih e
theorem zyt (x : Ed) : WideAt.IsKeyLit (ek x) := keyed_ed.key (zth x)
end
section
open Go.Maps
open Go.RowKit Go.Maps
def edOf (k : Lk) : Ed := ⟨k.s, k.t⟩
def edAt (l : List Lk) (i : Nat) : Ed := edOf (lkAt l i)
def iLk (i : Int) : DataW Unit := .lit (.int .i64 i)
def pcD (l : List Lk) : Nat → DataW Unit
 | 0 => .map []
 | k + 1 => if Maps.has (pcD l k) (ek (edAt l k)) = true then pcD l k else (pcD l k).put (ek (edAt l k)) (iLk k)
section
variable {l : List Lk}
theorem zrx {k : Nat} (h : Maps.has (pcD l k) (ek (edAt l k)) = true) : pcD l (k + 1) = pcD l k := if_pos h
theorem zzb {k : Nat} (h : Maps.has (pcD l k) (ek (edAt l k)) = false) : pcD l (k + 1) = (pcD l k).put (ek (edAt l k)) (iLk k) := if_neg (by rw [h]; exact Bool.false_ne_true)
theorem zji (l : List Lk) : ∀ k, Tidy (pcD l k)
 | 0 => tidy_empty
 | k + 1 => by
  unfold pcD
  split
  ·
   exact zji l k
  ·
   exact (zji l k).put (zyt _) _
theorem zwz (l : List Lk) (r : Ed) : ∀ k, Maps.has (pcD l k) (ek r) = true ↔ ∃ i, i < k ∧ edAt l i = r
 | 0 => ⟨fun h => (by cases h), fun ⟨_, h, _⟩ => absurd h (Nat.not_lt_zero _)⟩
 | k + 1 => by
  have ih := zwz l r k
  by_cases hk : Maps.has (pcD l k) (ek (edAt l k)) = true
  ·
   rw [zrx hk, ih]
   constructor
   ·
    rintro ⟨i, hi, e⟩; exact ⟨i, by omega, e⟩
   ·
    rintro ⟨i, hi, e⟩
    by_cases hik : i = k
    ·
     subst hik
     rw [e] at hk
     exact ih.1 hk
    ·
     exact ⟨i, by omega, e⟩
  ·
   rw [zzb (by simpa using hk)]
   by_cases e : edAt l k = r
   ·
    rw [e, has_put_same (zji l k).isMap (zyt r)]
    exact ⟨fun _ => ⟨k, Nat.lt_succ_self k, e⟩, fun _ => rfl⟩
   ·
    rw [has_put_other (fun h => e (yik h).symm), ih]
    constructor
    ·
     rintro ⟨i, hi, h⟩; exact ⟨i, by omega, h⟩
    ·
     rintro ⟨i, hi, h⟩
     rcases Nat.lt_succ_iff_lt_or_eq.1 hi with h1 | rfl
     ·
      exact ⟨i, h1, h⟩
     ·
      exact absurd h e
theorem zn0 (l : List Lk) : ∀ k, Maps.size (pcD l k) ≤ k
 | 0 => Nat.le_refl _
 | k + 1 => by
  have ih := zn0 l k
  by_cases hk : Maps.has (pcD l k) (ek (edAt l k)) = true
  ·
   rw [zrx hk]; omega
  ·
   rw [zzb (by simpa using hk), size_put (zji l k)]
   split <;> omega
theorem zzc (l : List Lk) : ∀ k, Maps.size (pcD l k) = k ↔ ∀ i, i < k → ∀ j, j < i → edAt l j ≠ edAt l i
 | 0 => ⟨fun _ i h => absurd h (Nat.not_lt_zero _), fun _ => rfl⟩
 | k + 1 => by
  have ih := zzc l k
  have hle := zn0 l k
  by_cases hh : Maps.has (pcD l k) (ek (edAt l k)) = true
  ·
   rw [zrx hh]
   obtain ⟨i, hi, e⟩ := (zwz l _ k).1 hh
   exact ⟨fun h => by omega, fun h => absurd e (h k (Nat.lt_succ_self k) i hi)⟩
  ·
   rw [zzb (by simpa using hh), size_put (zji l k), if_neg hh]
   constructor
   ·
    intro h i hi j hj
    rcases Nat.lt_succ_iff_lt_or_eq.1 hi with h1 | rfl
    ·
     exact ih.1 (by omega) i h1 j hj
    ·
     intro e
     exact hh ((zwz l _ i).2 ⟨j, hj, e⟩)
   ·
    intro h
    have := ih.2 fun i hi j hj => h i (by omega) j hj
    omega
theorem ybc (l : List Lk) : MayK l l.length ↔ (∀ i, i < l.length → okK (lkAt l i)) ∧ Maps.size (pcD l l.length) = l.length := by
 rw [zzc]
 have he : ∀ i k, oneB (lkAt l i) (lkAt l k) = false ↔ edAt l k ≠ edAt l i := fun i k => by
  rw [← Bool.not_eq_true, ybo]
  exact not_congr ⟨fun h => Ed.ext h.1.symm h.2.symm, fun h => ⟨(congrArg Ed.s h).symm, (congrArg Ed.t h).symm⟩⟩
 unfold MayK
 constructor
 ·
  intro h
  exact ⟨fun i hi => (h i hi).1, fun i hi j hj => (he i j).1 ((h i hi).2 j hj)⟩
 ·
  intro h i hi
  exact ⟨h.1 i hi, fun k hk => (he i k).2 (h.2 i hi k hk)⟩
end
end
theorem z50 (s t : Ck) (w : World) :
  Calls Tryz.prog 121 #[.agg (cc s), .agg (cc t)] w fun e w' => e = .returned (.bool (decide (s.epoch.toNat < t.epoch.toNat))) ∧ Below w.heap.size w w' := by
 obtain ⟨W0, hW0⟩ : ∃ W0, W0 = (w.alloc (.cells (cc s) 36)).alloc (.cells (cc t) 36) := ⟨_, rfl⟩
 obtain ⟨hB, m0, m1, _⟩ := zc2 w _ _ _ _ W0 hW0
 have HB := Lib.hid hB
 have HW := Lib.hid hW0
 have a1 := (ck_v m0).e
 have b1 := (ck_v m1).e
 clear hW0 hB m0 m1
 generalize s.epoch.toNat = A at *
 generalize t.epoch.toNat = B at *
 obtain ⟨E, hE⟩ : ∃ E, E = decide (A < B) := ⟨_, rfl⟩
 rw [← hE]
 have t1 : decide ((A : Int) < (B : Int)) = E := by rw [hE]; congr 1; rw [eq_iff_iff]; omega
 have t1' : decide (A < B) = E := hE.symm
 clear hE
 go_enter Tryz.func121, Tryz.ntmps121
 go_upto_region 1 with fail
 rw [← HW.out]
 go_wp2_with fail
 go_ret
 exact ⟨rfl, HB.out⟩
theorem zy1 (k : Lk) (w : World) :
  Calls Tryz.prog 122 #[.agg (lk k)] w fun e w' => e = .returned (.agg (ed (edOf k))) ∧ Below w.heap.size w w' := by
 obtain ⟨W0, hW0⟩ : ∃ W0, W0 = (w.alloc (.cells (lk k) 118)).alloc (.cells (ed zed) 160) := ⟨_, rfl⟩
 obtain ⟨hB, m0, m1, hz⟩ := zc2 w _ _ _ _ W0 hW0
 have HB := Lib.hid hB
 have HW := Lib.hid hW0
 have M1 := Lib.hid m1
 have a1 := (lk_v m0).s
 have a2 := (lk_v m0).t
 have z1 := zau m1 (zgu _)
 clear hW0 hB m0 m1 hz
 go_enter Tryz.func122, Tryz.ntmps122
 go_upto_region 1 with fail
 rw [← HW.out]
 go_wp2_with fail
 exact bodyPost_ret (zao Tryz.isAgg160 Tryz.sizeOf160 _ 2 rfl _ _ _ _ rfl (zar (zna M1.out (by rw [zgu, zgu])) (zgu _))) rfl ⟨rfl, zas HB.out (Nat.le_succ _)⟩
theorem z1g (k : Lk) (w : World) :
  Calls Tryz.prog 86 #[.agg (lk k)] w fun e w' => e = .returned (.bool (decide (okK k))) ∧ Below w.heap.size w w' := by
 obtain ⟨W0, hW0⟩ : ∃ W0, W0 = w.alloc (.cells (lk k) 118) := ⟨_, rfl⟩
 have hB : Below w.heap.size w W0 := by rw [hW0]; exact below1
 have m0 : W0.heap[w.heap.size]? = some (.cells (lk k) 118 (0, 0)) := by rw [hW0]; exact heap_alloc_last w _
 have HB := Lib.hid hB
 have HW := Lib.hid hW0
 have M0 := Lib.hid m0
 have a1 := (lk_v m0).s
 have a2 := (lk_v m0).t
 have HF := Lib.hid (fun W => z50 k.s k.t W)
 obtain ⟨F, hF⟩ : ∃ F, F = decide (k.s.epoch.toNat < k.t.epoch.toNat) := ⟨_, rfl⟩
 rw [← hF] at HF
 obtain ⟨M, hM⟩ : ∃ M, M = k.mask.toNat := ⟨_, rfl⟩
 have HM := Lib.hid hM
 obtain ⟨E1, hE1⟩ : ∃ E, E = decide (0 < M) := ⟨_, rfl⟩
 obtain ⟨E2, hE2⟩ : ∃ E, E = decide (M ≤ 255) := ⟨_, rfl⟩
 have HR : Hid (decide (okK k) = (F && E1 && E2)) := by
  show _ = _
  rw [hF, hE1, hE2, hM, ← Bool.decide_and, ← Bool.decide_and]
  exact decide_eq_decide.2 ⟨fun ⟨a, b, c⟩ => ⟨⟨a, b⟩, c⟩, fun ⟨⟨a, b⟩, c⟩ => ⟨a, b, c⟩⟩
 rw [HR.out]
 have t1 : decide ((0 : Int) < (M : Int)) = E1 := by rw [hE1]; congr 1; rw [eq_iff_iff]; omega
 have t1' : decide (0 < M) = E1 := hE1.symm
 have t2 : decide ((M : Int) ≤ 255) = E2 := by rw [hE2]; congr 1; rw [eq_iff_iff]; omega
 have t2' : decide (M ≤ 255) = E2 := hE2.symm
 clear hW0 hB m0 hF hM hE1 hE2 HR
 go_enter Tryz.func86, Tryz.ntmps86
 go_upto_region 1 with fail
 rw [← HW.out]
 go_wp2_with fail
 refine (HF.out W0).mono ?_
 rintro e w1 ⟨rfl, g⟩
 have G := Lib.hid (zab HB.out g)
 have c1 := (lk_v (zac g M0.out)).m
 rw [← HM.out] at c1
 clear g a1 a2 HF
 cases F <;> cases E1 <;> cases E2 <;> (
  go_wp2_with fail
  go_ret
  exact ⟨rfl, G.out⟩)
section
open Go.Maps
theorem zuv {P : Program} {T k e : TypeId} (hu : P.underlying T = some (.map k e)) (n : Int) (w : World) : (Instr.makeMap T (some (.int .i64 n))).run P w = .ok (.map (some w.heap.size)) (w.alloc (.map #[] 0)) := by
 simp only [Instr.makeMap]
 simp [run_underlying hu, asInt]
 rfl
theorem z8y (w : World) : (zeroValue 3).run Tryz.prog w = .ok (.int .i64 0) w := by kernel_rfl
theorem yf6 {W : World} {b n : Nat} {D : DataW Unit} (h : W.ownsMap Tryz.prog 160 (plainElem Tryz.prog 3) b n D) (r : Ed) : ∃ c : Int,
  (Instr.lookup 125 (.map (some b)) (.agg (ed r)) true).run Tryz.prog W = .ok (.tuple #[.int .i64 c, .bool (Maps.has D (ek r))]) W ∧ D.atKey (ek r) (iLk 0) = iLk c := by
 obtain ⟨v, ps, hrun, hv⟩ := h.look_ok keyed_ed Tryz.underlying125 (z8y W) (plainElem_int Tryz.underlying3 (by decide)) (zth r)
 obtain ⟨a, rfl, hz, _⟩ := plainElem_int_inv Tryz.underlying3 hv
 exact ⟨a, hrun, congrArg Prod.fst hz⟩
def PlIs (D : DataW Unit) (n : Nat) (w : World) (e : Ending) (w' : World) : Prop := ∃ b, e = .returned (.map (some b)) ∧ w'.ownsMap Tryz.prog 160 (plainElem Tryz.prog 3) b n D ∧ Below w.heap.size w w'
theorem zlh (p : Option Addr) (n cp : Nat) (l : List Lk) (w : World) (h : SlE Elk w (.slice p n cp) l) (hl : l.length = n) (hn : n ≤ 1000) :
  Calls Tryz.prog 87 #[.slice p n cp] w (PlIs (pcD l n) n w) := by
 have hmm := zuv (P := Tryz.prog) Tryz.underlying125
 have HL := Lib.hid hl
 have HN := Lib.hid hn
 have HS := Lib.hid h
 clear h hl hn
 go_enter Tryz.func87, Tryz.ntmps87
 go_wp2_with fail
 go_loopw [13] (fun i wr => ∃ j : Nat, j ≤ n ∧ i = .int .i64 (j : Int) ∧ wr.ownsMap Tryz.prog 160 (plainElem Tryz.prog 3) w.heap.size j (pcD l j) ∧ Below w.heap.size w wr) (fun i _ => n - (intOf i).toNat)
 case atStart => exact ⟨0, Nat.zero_le _, rfl, World.ownsMap_made _ _ _ _, below1⟩
 case round =>
  obtain ⟨j, hj, rfl, hown, hb⟩ := hrel
  have HO := Lib.hid hown
  have HBB := Lib.hid hb
  clear hown hb
  by_cases hlt : j < n
  ·
   have i0 : (0 : Int) ≤ (j : Int) := by omega
   have i1 : (j : Int) < (n : Int) := by omega
   have u1 : (j : Int) + 1 < 10000 := by have := HN.out; omega
   obtain ⟨b1, o1, rfl, q1, x1⟩ := zes HS.out (by have := HL.out; omega)
   have y1 := keep HBB.out (zi9 x1 (i := j) (by have := HL.out; omega))
   clear x1 q1
   obtain ⟨x, hx⟩ : ∃ x, x = lkAt l j := ⟨_, rfl⟩
   rw [← hx] at y1
   have HE : Hid (edAt l j = edOf x) := by show _ = _; rw [hx]; rfl
   clear hx
   go_upto_region 5 with fail
   obtain ⟨V, hV⟩ : ∃ V, V = wr.alloc (.cells (lk x) 118) := ⟨_, rfl⟩
   rw [← hV]
   have GV : Hid (Below wr.heap.size wr V) := by show Below _ _ _; rw [hV]; exact below1
   have MV : Hid (V.heap[wr.heap.size]? = some (.cells (lk x) 118 (0, 0))) := by show _ = _; rw [hV]; exact heap_alloc_last _ _
   clear hV y1
   have a1 := (lk_v MV.out).a
   go_wp2_with fail
   refine (zy1 x V).mono ?_
   rintro e V1 ⟨rfl, g⟩
   replace GV := Lib.hid (zab GV.out g)
   replace MV := Lib.hid (zac g MV.out)
   clear g a1
   have a1 := (lk_v MV.out).a
   have HO1 := Lib.hid (zct GV.out HO.out)
   obtain ⟨c, Lc, _⟩ := yf6 HO1.out (edOf x)
   obtain ⟨q, hq⟩ : ∃ q, q = Maps.has (pcD l j) (ek (edOf x)) := ⟨_, rfl⟩
   rw [← hq] at Lc
   have HQ := Lib.hid hq
   clear hq
   cases q
   ·
    have HP : Hid (pcD l (j + 1) = (pcD l j).put (ek (edOf x)) (iLk j)) := by
     show _ = _
     rw [zzb (by rw [HE.out]; exact HQ.out.symm), HE.out]
    go_wp2_with fail
    clear Lc
    refine (zy1 x V1).mono ?_
    rintro e V2 ⟨rfl, g⟩
    replace GV := Lib.hid (zab GV.out g)
    clear g a1 HO1
    have HO1 := Lib.hid (zct GV.out HO.out)
    go_wp2_with (at_mapUpdate; refine wpList_mapUpdate_own _ rfl _ _ _ 125 rfl 160 3 keyed_ed Tryz.underlying125 (plainElem Tryz.prog 3) w.heap.size j _ rfl HO1.out (by unfold maxLen; omega) _ _ _ rfl rfl (zth (edOf x)) _ [] (plainElem_int Tryz.underlying3 (WalkArith.wf_i64 (by omega))) ?_; intro w1 hown1 hgrow1)
    go_roundw
    case rel => exact ⟨j + 1, by omega, by go_num, by rw [HP.out]; exact hown1, (zab HBB.out GV.out).grown hgrow1 (by have := HBB.out.size; have := GV.out.size; omega) (fun k hk => by cases hk; exact Nat.le_refl _)⟩
    case measure => simp [intOf]; omega
   ·
    have HP : Hid (pcD l (j + 1) = pcD l j) := zrx (by rw [HE.out]; exact HQ.out.symm)
    go_wp2_with fail
    go_roundw
    case rel => exact ⟨j + 1, by omega, by go_num, by rw [HP.out]; exact HO1.out.mono (Nat.le_succ _), zab HBB.out GV.out⟩
    case measure => simp [intOf]; omega
  ·
   obtain rfl : j = n := by omega
   clear hlt
   go_wp2_with fail
   go_ret
   exact ⟨_, rfl, HO.out, HBB.out⟩
end
section
open Go.Maps
theorem zwf (p : Option Addr) (n cp : Nat) (w : World) (hn : 16 < n) :
  Calls Tryz.prog 43 #[.slice p n cp] w fun e w' => e = .returned (.bool false) ∧ Below w.heap.size w w' := by
 have t1 : decide ((16 : Int) < (n : Int)) = true := by rw [decide_eq_true_iff]; omega
 have t1' : decide (16 < n) = true := decide_eq_true hn
 clear hn
 go_enter Tryz.func43, Tryz.ntmps43
 go_wp2_with fail
 go_ret
 exact ⟨rfl, Below.refl _ _⟩
theorem ztw (p : Option Addr) (n cp : Nat) (l : List Lk) (w : World) (h : SlE Elk w (.slice p n cp) l) (hl : l.length = n) (hn : n ≤ 16) :
  Calls Tryz.prog 43 #[.slice p n cp] w fun e w' => e = .returned (.bool (mayL l)) ∧ Below w.heap.size w w' := by
 have HN := Lib.hid hn
 have HL := Lib.hid hl
 have HS := Lib.hid h
 obtain ⟨r, hr⟩ : ∃ r, r = mayL l := ⟨_, rfl⟩
 rw [← hr]
 have HR : Hid (r = true ↔ (∀ i, i < n → okK (lkAt l i)) ∧ Maps.size (pcD l n) = n) := by
  show _ ↔ _
  rw [hr, zf9, ybc, hl]
  exact ⟨fun h => h.1, fun h => ⟨h, hn⟩⟩
 have t1 : decide ((16 : Int) < (n : Int)) = false := by rw [decide_eq_false_iff_not]; omega
 have t1' : decide (16 < n) = false := by rw [decide_eq_false_iff_not]; omega
 clear h hl hn hr
 go_enter Tryz.func43, Tryz.ntmps43
 go_wp2_with fail
 clear t1 t1'
 go_loopw [10] (fun i wr => ∃ j : Nat, j ≤ n ∧ i = .int .i64 (j : Int) ∧ (∀ k, k < j → okK (lkAt l k)) ∧ Below w.heap.size w wr) (fun i _ => n - (intOf i).toNat)
 case atStart => exact ⟨0, Nat.zero_le _, rfl, fun k hk => absurd hk (Nat.not_lt_zero _), Below.refl _ _⟩
 case round =>
  obtain ⟨j, hj, rfl, hx, hb⟩ := hrel
  have HX := Lib.hid hx
  have HBB := Lib.hid hb
  clear hx hb
  by_cases hlt : j < n
  ·
   have i0 : (0 : Int) ≤ (j : Int) := by omega
   have i1 : (j : Int) < (n : Int) := by omega
   have u1 : (j : Int) + 1 < 10000 := by have := HN.out; omega
   obtain ⟨b1, o1, rfl, q1, x1⟩ := zes HS.out (by have := HL.out; omega)
   have y1 := keep HBB.out (zi9 x1 (i := j) (by have := HL.out; omega))
   clear x1 q1
   obtain ⟨x, hx⟩ : ∃ x, x = lkAt l j := ⟨_, rfl⟩
   rw [← hx] at y1
   have HE := Lib.hid hx
   have HC := Lib.hid (fun W => z1g x W)
   obtain ⟨c, hc⟩ : ∃ c, c = decide (okK x) := ⟨_, rfl⟩
   rw [← hc] at HC
   have HCc := Lib.hid hc
   clear hx hc
   go_upto_region 6 with fail
   obtain ⟨V, hV⟩ : ∃ V, V = wr.alloc (.cells (lk x) 118) := ⟨_, rfl⟩
   rw [← hV]
   have GV : Hid (Below wr.heap.size wr V) := by show Below _ _ _; rw [hV]; exact below1
   have MV : Hid (V.heap[wr.heap.size]? = some (.cells (lk x) 118 (0, 0))) := by show _ = _; rw [hV]; exact heap_alloc_last _ _
   clear hV y1
   have a1 := (lk_v MV.out).a
   go_wp2_with fail
   refine (HC.out V).mono ?_
   rintro e V1 ⟨rfl, g⟩
   replace GV := Lib.hid (zab GV.out g)
   clear g a1 MV
   cases c
   ·
    have hR : Hid (r = false) := by
     show r = false
     rw [← Bool.not_eq_true, HR.out]
     intro h
     have := h.1 j hlt
     rw [← HE.out] at this
     rw [decide_eq_true this] at HCc
     cases HCc.out
    go_wp2_with fail
    go_ret
    exact ⟨by rw [hR.out]; first | done | rfl, zab HBB.out GV.out⟩
   ·
    go_wp2_with fail
    go_roundw
    case rel => exact ⟨j + 1, by omega, by go_num, fun k hk => by
     rcases Nat.lt_succ_iff_lt_or_eq.1 hk with h | rfl
     ·
      exact HX.out k h
     ·
      rw [← HE.out]; exact of_decide_eq_true HCc.out.symm, zab HBB.out GV.out⟩
    case measure => simp [intOf]; omega
  ·
   obtain rfl : j = n := by omega
   obtain ⟨m, hm⟩ : ∃ m, m = Maps.size (pcD l j) := ⟨_, rfl⟩
   have hR : r = decide (m = j) := by
    rw [Bool.eq_iff_iff, decide_eq_true_iff, HR.out, hm]
    exact ⟨fun h => h.2, fun h => ⟨HX.out, h⟩⟩
   have s1 : ((m : Int) == (j : Int)) = r := by rw [hR, Bool.eq_iff_iff, beq_iff_eq, decide_eq_true_iff]; omega
   have s2 : decide (m = j) = r := hR.symm
   have HM := Lib.hid hm
   clear hlt hR hm
   go_wp2_with fail
   refine (zlh p j cp l wr (zad HBB.out HS.out) HL.out (by have := HN.out; omega)).mono ?_
   rintro e u ⟨b, rfl, ho, g⟩
   have Le := fun (ty : TypeId) => ho.len Tryz.underlying125 ty
   rw [← HM.out] at Le
   have G := Lib.hid (zab HBB.out g)
   clear g ho
   go_wp2_with fail
   go_ret
   exact ⟨rfl, G.out⟩
theorem z51 (v : Value) (l : List Lk) (w : World) (h : SlE Elk w v l) :
  Calls Tryz.prog 43 #[v] w fun e w' => e = .returned (.bool (mayL l)) ∧ Below w.heap.size w w' := by
 have k := h
 obtain ⟨p, cl, rfl, _⟩ := zal h
 by_cases hf : 16 < l.length
 ·
  have e : mayL l = false := by
   rw [← Bool.not_eq_true, zf9]
   intro hm
   omega
  rw [e]
  exact zwf p _ cl w hf
 ·
  exact ztw p _ cl l w k rfl (by omega)
end
end Go.Proofs.YtkalofboioffiaaGreat
