import Derived.Test.YtkalofboioffiaaGreatQ23
import Derived.RangeFuncBox
import Derived.DeepKeys4
namespace Go.Proofs.YtkalofboioffiaaGreat
open Go.RowKit
set_option maxRecDepth 200000
set_option maxHeartbeats 64000000
section
open Go.Shelf
attribute [local go_sem] Oper.semAt_some
@[local go_sem ↓ high] theorem ynx {P : Program} (l : Option Nat) (ρ : Operand → Value) (o : Oper) (w : World) (h : ∀ c, o.op ≠ .defer c) : (Oper.semAt l ρ o).run P w = (execOp ρ o).run P w := by rw [Oper.semAt_eq l ρ o h]
theorem zze (p : Option Addr) (n c : Nat) (w : World) :
  Calls Tryz.prog 180 #[.slice p n c] w fun e w' => e = .returned (.func (.func 203) #[] #[.pointer (some ⟨w.heap.size, 0, none⟩)]) ∧ w' = w.alloc (.cells #[.slice p n c] 31) := by
 go_enter Tryz.func180, Tryz.ntmps180
 go_wp2_with fail
 go_ret
 exact ⟨rfl, rfl⟩
theorem znz (d s0 n₀ D bx n c : Nat) (p : Option Addr) (L : List Lk) (w : World) (hs : s0 ≤ n₀) (hn₀ : n₀ ≤ w.heap.size) (hn : n ≤ 1000) (hl : L.length = n) (q1 : bx < n₀) (q2 : bx ≠ D)
  (t0 : w.heap[bx]? = some (.cells #[.slice p n c] 31 (0, 0))) (hS : SlE Elk w (.slice p n c) L) (hq : ∀ b o, p = some ⟨b, o, none⟩ → 0 < n → b < n₀ ∧ b ≠ D) :
  SeqStopsK Fence.wide d Tryz.prog 203 #[.pointer (some ⟨bx, 0, none⟩)] (fun x : Lk => #[Value.agg (lk x)]) (But s0 n₀ D) (fun ys => ys = L) (fun pre => pre <+: L) L.length w := by
 intro lo J Jx W hW hAJ _ hY hJ0
 have HT : Hid (∀ W', But s0 n₀ D w W' → W'.heap[bx]? = some (.cells #[.slice p n c] 31 (0, 0))) := fun W' g => g.blk q1 q2 t0
 have HX : Hid (∀ j, j < n → ∃ b o, p = some ⟨b, o, none⟩ ∧ ∀ W', But s0 n₀ D w W' → ldA W' (.pointer (some ⟨b, o + j * 67, none⟩)) 67 = some (lk (lkAt L j))) := fun j hj => by
  obtain ⟨b, o, e, _, x⟩ := zkj hS (by omega)
  obtain ⟨h1, h2⟩ := hq b o e (by omega)
  exact ⟨b, o, e, fun W' g => zqg (zly (g.block b h1 h2) x) (by omega)⟩
 have HG0 : Hid (But s0 n₀ D w W) := But.of_below (hW.mono hn₀) hs
 have HS : Hid (∀ W', But s0 n₀ D w W' → ∀ W2, Below W'.heap.size W' W2 → But s0 n₀ D w W2) := fun W' g W2 k => g.then k hs (Nat.le_trans hn₀ g.below.size)
 have HAJ : Hid (∀ pre W1 W', J pre W1 → Below W1.heap.size W1 W' → J pre W') := fun pre W1 W' hj g => hAJ pre W1 W' none hj (zbl g) (fun r e => by cases e)
 have HY := Lib.hid hY
 have HJ0 := Lib.hid hJ0
 have HN := Lib.hid hn
 have HL := Lib.hid hl
 clear hY hJ0 hW hAJ t0 hS hq hs hn₀ hn hl q1 q2
 have e0 := (zaj (HT.out _ HG0.out)).1
 refine callsIn_of_wp Tryz.func203 rfl trivial ?_ rfl
 simp only [Tryz.ntmps203, List.size_toArray, List.length_cons, List.length_nil, Nat.reduceAdd, Nat.reduceSub, Array.replicate_succ, Array.replicate_zero, List.push_toArray, List.append_toArray, List.nil_append, List.cons_append]
 gi_wp2
 clear e0
 gi_loopw [7] (fun u wr => ∃ (j : Nat), u = .int .i64 (j : Int) ∧ j ≤ n ∧ But s0 n₀ D w wr ∧ J (L.take j) wr) (fun u _ => n - (intOf u).toNat)
 case atStart => exact ⟨0, rfl, Nat.zero_le _, HG0.out, HJ0.out⟩
 case round =>
  obtain ⟨j, rfl, hj, hg, hjj⟩ := hrel
  have HG := Lib.hid hg
  have HJ := Lib.hid hjj
  clear hg hjj
  by_cases hlt : j < n
  ·
   have d0 : decide ((j : Int) < (n : Int)) = true := decide_eq_true (by omega)
   have d0' : decide (j < n) = true := decide_eq_true hlt
   have i0 : (0 : Int) ≤ (j : Int) := by omega
   have i1 : (j : Int) < (n : Int) := by omega
   have u1 : (j : Int) + 1 < 10000 := by have := HN.out; omega
   have HLT := Lib.hid hlt
   obtain ⟨b, o, rfl, hx⟩ := HX.out j hlt
   have y1 := hx wr HG.out
   have HTk : Hid (L.take (j + 1) = L.take j ++ [lkAt L j]) := by
    show _ = _
    rw [zcy (by have := HL.out; omega), List.take_add_one, List.getElem?_eq_getElem (by have := HL.out; omega)]
    rfl
   have HPf : Hid (L.take j ++ [lkAt L j] <+: L) := by show _ <+: _; rw [← HTk.out]; exact List.take_prefix _ _
   generalize lkAt L j = X at *
   have HG5 : Hid (But s0 n₀ D w (wr.alloc (.cells (lk X) 118))) := HS.out _ HG.out _ below1
   have HJ5 : J (L.take j) (wr.alloc (.cells (lk X) 118)) := HAJ.out _ _ _ HJ.out below1
   obtain ⟨fn, tmps, assign, body, hy, hR⟩ := HY.out _ X _ HJ5 (by rw [List.length_take, HL.out]; omega)
   have HRR := Lib.hid hR
   clear hR hx hlt hj HJ5
   gi_wp2
   refine ⟨fun h => (by cases h), RoundIn.mono HRR.out ?_⟩
   rintro e W3 (⟨rfl, hJ3, hk3⟩ | ⟨rfl, hJx3⟩)
   ·
    have HG3 := Lib.hid (HG5.out.trans hk3)
    rw [← HTk.out] at hJ3
    have HJ3 := Lib.hid hJ3
    clear hJ3 hk3
    gi_wp2
    go_roundw
    case rel => exact ⟨j + 1, by go_num, HLT.out, HG3.out, HJ3.out⟩
    case measure => simp [intOf]; have := HLT.out; omega
   ·
    have HJ3 := Lib.hid hJx3
    clear hJx3
    gi_wp2
    refine bodyPost_ret (results_none rfl _ _ _) rfl ?_
    exact ⟨⟨_, rfl⟩, .inr ⟨_, HPf.out, HJ3.out⟩⟩
  ·
   obtain rfl : j = n := by omega
   have HF : Hid (L.take j = L) := List.take_of_length_le (by rw [HL.out]; exact Nat.le_refl _)
   clear hlt
   gi_wp2
   go_end0
   exact ⟨⟨_, rfl⟩, .inl ⟨_, HF.out, HJ.out⟩⟩
theorem ze6 : ∀ args w, (callFunc 203 args).run Tryz.prog w = .ok (.enter 203 args) w := zbe Tryz.func203 (by kernel_rfl) (by kernel_rfl)
end
theorem zhw : ∀ args w, (callFunc 21 args).run Tryz.prog w = .ok (.enter 21 args) w := zbe Tryz.func21 (by kernel_rfl) (by kernel_rfl)
theorem zmy : ∀ args w, (callFunc 23 args).run Tryz.prog w = .ok (.enter 23 args) w := zbe Tryz.func23 (by kernel_rfl) (by kernel_rfl)
theorem zs8 (s : SlV) (l : List Nd) (c d : Ck) (w : World) (h : SlE Ene w (sv s) l) :
  Calls Tryz.prog 61 #[.agg (tr ⟨s⟩), .agg (cc c), .agg (cc d)] w fun e w' => e = .returned (.bool (zb9 l c d)) ∧ Below w.heap.size w w' := by
 have HF := Lib.hid (fun r W (g : Below w.heap.size w W) => zdh s l r W (zad g h))
 have HA := Lib.hid (fun W (g : Below w.heap.size w W) => zf2 s l (zal l d.root) (zal l c.root) W (zad g h))
 obtain ⟨r, hr⟩ : ∃ r, r = zb9 l c d := ⟨_, rfl⟩
 rw [← hr]
 rw [show zb0 l (zal l d.root) (zal l c.root) = r from hr.symm] at HA
 have HFc := Lib.hid (HF.out c.root)
 have HFd := Lib.hid (HF.out d.root)
 generalize zal l c.root = x at *
 generalize zal l d.root = y at *
 obtain ⟨W0, hW0⟩ : ∃ W0, W0 = ((w.alloc (.cells (tr ⟨s⟩) 24)).alloc (.cells (cc c) 36)).alloc (.cells (cc d) 36) := ⟨_, rfl⟩
 obtain ⟨hB, k0, k1, k2, hz0⟩ := zft w _ _ _ _ _ _ W0 hW0
 have HB := Lib.hid hB
 have HW := Lib.hid hW0
 have z0 := (zaw k0).2.1
 have z1 := zdr k1
 have z2 := zdr k2
 clear hW0 h hB k0 k1 k2 hz0 hr HF
 go_enter Tryz.func61, Tryz.ntmps61
 go_upto_region 1 with fail
 rw [← HW.out]
 have L0 := fun p : Wd W0.drew => za8 z0 (by decide) p
 have L1 := fun p : Wd W0.drew => za8 z1 (by decide) p
 have L2 := fun p : Wd W0.drew => za8 z2 (by decide) p
 clear z0 z1 z2
 refine zan [4, 8, 9] (by kernel_rfl) (by kernel_rfl) (by kernel_rfl) ?_
 repeat (first | (refine zae rfl rfl _ zaf ?_; (first | go_big_quiet_step (fail) | quiet_step (fail)); refine wpQuiet_nil ?_) | refine zah rfl ?_)
 refine zau rfl rfl rfl zhw #[.agg (tr ⟨s⟩), .agg (rc d.root)] rfl ?_
 refine (HFd.out _ (zac HB.out (zak (Below.refl _ _) 1))).mono ?_
 rintro e u ⟨rfl, g⟩
 refine ⟨_, rfl, g, ?_⟩
 simp only [Act.put, List.setIfInBounds_toArray, List.set_cons_zero, List.set_cons_succ]
 have G : Hid (Below W0.heap.size W0 u) := zac (zak (Below.refl _ _) 1) g
 clear g
 repeat (first | (refine zae rfl rfl _ zaf ?_; (first | go_big_quiet_step (fail) | quiet_step (fail)); refine wpQuiet_nil ?_) | refine zah rfl ?_)
 refine zau rfl rfl rfl zhw #[.agg (tr ⟨s⟩), .agg (rc c.root)] rfl ?_
 refine (HFc.out _ (zac HB.out G.out)).mono ?_
 rintro e u2 ⟨rfl, g⟩
 refine ⟨_, rfl, g, ?_⟩
 simp only [Act.put, List.setIfInBounds_toArray, List.set_cons_zero, List.set_cons_succ]
 replace G : Hid (Below W0.heap.size W0 u2) := zac G.out g
 clear g
 repeat (first | (refine zae rfl rfl _ zaf ?_; (first | go_big_quiet_step (fail) | quiet_step (fail)); refine wpQuiet_nil ?_) | refine zah rfl ?_)
 refine zau rfl rfl rfl zmy #[.agg (tr ⟨s⟩), .int .i64 y, .int .i64 x] rfl ?_
 refine (HA.out _ (zac HB.out G.out)).mono ?_
 rintro e u3 ⟨rfl, g⟩
 refine ⟨_, rfl, g, ?_⟩
 simp only [Act.put, List.setIfInBounds_toArray, List.set_cons_zero, List.set_cons_succ]
 replace G : Hid (Below W0.heap.size W0 u3) := zac G.out g
 clear g
 repeat (first | (refine zae rfl rfl _ zaf ?_; (first | go_big_quiet_step (fail) | quiet_step (fail)); refine wpQuiet_nil ?_) | refine zah rfl ?_)
 refine zbd ?_
 clear L0 L1 L2
 go_wp2_with fail
 go_ret
 exact ⟨rfl, zac HB.out G.out⟩
structure Ed where
 s : Ck
 t : Ck
theorem Ed.ext {x y : Ed} (h0 : x.s = y.s) (h1 : x.t = y.t) : x = y := by cases x; cases y; simp_all
instance : DecidableEq Ed := fun x y => decidable_of_iff (x.s = y.s ∧ x.t = y.t) ⟨fun h => Ed.ext h.1 h.2, fun h => by subst h; exact ⟨rfl, rfl⟩⟩
def edL (x : Ed) : List Value := (cc x.s).toList ++ ((cc x.t).toList)
def ed (x : Ed) : Array Value := (edL x).toArray
theorem z0j (x : Ed) : (ed x).toList = edL x := rfl
theorem ypm (x : Ed) : (edL x).length = 66 := by simp [edL, za5]
theorem zia (x : Ed) : (ed x).size = 66 := by rw [← Array.length_toList, z0j, ypm]
theorem ypn (x : Ed) : ∀ v ∈ edL x, v.oneCell' = true := by
 intro v hv
 unfold edL at hv
 simp only [List.mem_append] at hv
 rcases hv with hv | hv
 ·
  exact zgs _ v (by rw [zby] at hv; exact hv)
 ·
  exact zgs _ v (by rw [zby] at hv; exact hv)
@[go_sem] theorem ytv (x : Ed) : okA 66 (.agg (ed x)) = true := by
 show ((ed x).size == 66 && (ed x).all (·.oneCell')) = true
 rw [show (ed x).all (·.oneCell') = true from zea (ypn x), zia]; rfl
def zed : Ed := ⟨zcc, zcc⟩
theorem yea (w : World) : (zeroValue 160).run Tryz.prog w = .ok (.agg (ed zed)) w := by kernel_rfl
@[go_sem ↓] theorem yr8 (ρ : Operand → Value) (dst : Option Tmp) (x y : Operand) (ty : TypeId) (pos : String) (after : Array Edge) (guard : Option (Nat × Bool)) (w : World) :
  (execOp ρ { dst, op := .store 160 x y, type := ty, pos, after, guard }).run Tryz.prog w = zjo (wrA w (ρ x) 66 && okA 66 (ρ y)) (stA w (ρ x) (ρ y)) (zbn Tryz.prog ρ { dst, op := .store 160 x y, type := ty, pos, after, guard } w) :=
 zbm Tryz.sizeOf160 ρ dst x y ty pos after guard w
@[go_sem ↓] theorem yrj (ρ : Operand → Value) (dst : Option Tmp) (ty : TypeId) (pos : String) (after : Array Edge) (guard : Option (Nat × Bool)) (w : World) :
  (execOp ρ { dst, op := .alloc 160, type := ty, pos, after, guard }).run Tryz.prog w = .ok (.value (.pointer (some ⟨w.heap.size, 0, none⟩))) (w.alloc (.cells (ed zed) 160)) := by
 unfold execOp
 simp only [Instr.alloc, Sem.run_bind, yea, Result.andThen_ok]
 rfl
def places_ed : List (Nat × Nat) := [(0, 33), (33, 33)]
theorem yac : ∀ w : World, ((Tryz.prog.fieldsOf 160).mapM (m := Sem) fun f => do pure (f.offset, ← Go.sizeOf f.type)).run Tryz.prog w = .ok places_ed.toArray w := fun _ => by kernel_rfl
theorem zwm : Tryz.prog.underlying 160 = some (.struct (Tryz.prog.fieldsOf 160)) := by kernel_rfl
theorem ylw : (Tryz.prog.fieldsOf 160).toList.map (fun f => (f.name, f.type, f.offset)) = [("s", 36, 0), ("t", 36, 33)] := by kernel_rfl
@[go_sem ↓] theorem yrw (ρ : Operand → Value) (dst : Option Tmp) (p : Nat × Operand) (ps : List (Nat × Operand)) (ty : TypeId) (pos : String) (after : Array Edge) (guard : Option (Nat × Bool)) (w : World) :
  (execOp ρ { dst, op := .build 160 (p :: ps).toArray, type := ty, pos, after, guard }).run Tryz.prog w = zg7 ((zh2 places_ed (ed zed) ((p.1, ρ p.2) :: ps.map fun p => (p.1, ρ p.2))).map .agg) w (zbn Tryz.prog ρ { dst, op := .build 160 (p :: ps).toArray, type := ty, pos, after, guard } w) :=
 zcg yea zwm yac ρ dst (p :: ps).toArray ty pos after guard w
attribute [go_sem] places_ed zia
theorem zue (x : Ed) : edL x = ([]) ++ ((cc x.s).toList ++ ((cc x.t).toList)) ∧ ([] : List Value).length = 0 := by
 constructor
 ·
  unfold edL; simp
 ·
  rfl
theorem z28 (x : Ed) : (ed x).extract 0 (0 + 33) = cc x.s := zdt (zue x).1 (zue x).2 (za5 _)
theorem yf1 (x : Ed) (y : Ck) : za2 (ed x) 0 (cc y) = ed { x with s := y } := by
 rw [za3 (c := ed x) (zue x).1 (zue x).2 (by simp [za5])]
 simp [ed, edL]
theorem zuf (x : Ed) : edL x = ((cc x.s).toList) ++ ((cc x.t).toList ++ ([])) ∧ ((cc x.s).toList : List Value).length = 33 := by
 constructor
 ·
  unfold edL; simp
 ·
  simp [za5]
theorem z29 (x : Ed) : (ed x).extract 33 (33 + 33) = cc x.t := zdt (zuf x).1 (zuf x).2 (za5 _)
theorem yf2 (x : Ed) (y : Ck) : za2 (ed x) 33 (cc y) = ed { x with t := y } := by
 rw [za3 (c := ed x) (zuf x).1 (zuf x).2 (by simp [za5])]
 simp [ed, edL]
attribute [go_sem] yf1 yf2
theorem zss : Tryz.prog.cellsOf 160 = 66 := by kernel_rfl
section
open Go.Maps
def z6g (c : Ck) : List Lit := Lit.int .u64 (c.epoch.toNat : Int) :: z6f c.root
theorem ys0 : laidOutB Tryz.prog = true := by kernel_rfl
theorem ysz (D : Nat) (r : Rt) (i : Nat) : Tryz.prog.keyLits (D + 1) 5 [.int .u8 (at8 r i)] = some [Lit.int .u8 (at8 r i)] := by
 unfold Program.keyLits
 simp only [Tryz.underlying5]
 rw [if_pos ⟨trivial, wf8 r i⟩]
theorem wf64 (e : UInt64) : (Lit.int .u64 (e.toNat : Int)).wf = true := by
 have := e.toNat_lt
 show (decide (IntKind.u64.min ≤ (e.toNat : Int)) && decide ((e.toNat : Int) ≤ IntKind.u64.max)) = true
 rw [Bool.and_eq_true, decide_eq_true_eq, decide_eq_true_eq, show IntKind.u64.min = 0 from rfl, show IntKind.u64.max = 18446744073709551615 from rfl]
 omega
theorem yp0 (D : Nat) (e : UInt64) : Tryz.prog.keyLits (D + 1) 27 [num e] = some [Lit.int .u64 (e.toNat : Int)] := by
 show Tryz.prog.keyLits (D + 1) 27 [.int .u64 (e.toNat : Int)] = _
 unfold Program.keyLits
 simp only [Tryz.underlying27]
 rw [if_pos ⟨trivial, wf64 e⟩]
theorem ymf (D : Nat) (r : Rt) : Tryz.prog.keyLits (D + 2) 34 (rc r).toList = some (z6f r) := by
 unfold Program.keyLits
 simp only [Tryz.underlying34]
 rw [if_pos (by rw [arr_root.size]; simp [zav]), arr_root.one]
 rw [zvj _ (List.range 32) ((List.range 32).map fun i => [Lit.int .u8 (at8 r i)]) (by simp) (fun j x y hx hy => ?_)]
 ·
  have hfl : ∀ l : List Nat, (l.map fun i => [Lit.int .u8 (at8 r i)]).flatten = l.map fun i => Lit.int .u8 (at8 r i) := fun l => by induction l with | nil => rfl | cons a t ih => simp [ih]
  simp [hfl, z6f]
 ·
  have hj : j < 32 := by simpa using (List.getElem?_eq_some_iff.1 hx).1
  have ex : x = j := by
   obtain ⟨_, e⟩ := List.getElem?_eq_some_iff.1 hx
   simpa using e.symm
  subst ex
  have ey : y = [Lit.int .u8 (at8 r x)] := by
   rw [List.getElem?_map, hx] at hy
   simpa using hy.symm
  subst ey
  have hg : ((rc r).toList.drop (x * 1)).take 1 = [.int .u8 (at8 r x)] := by
   have hl : x < (rc r).toList.length := by simp [zav]; exact hj
   rw [Nat.mul_one, List.drop_eq_getElem_cons hl]
   simp [zm5]
  rw [hg]
  exact ysz D r x
theorem yjk {D : Nat} {t : TypeId} {fs : Array Field} {n1 n2 : String} {t1 t2 : TypeId} {o1 o2 c1 c2 : Nat} {cs : List Value} {a b : List Lit} (hu : Tryz.prog.underlying t = some (.struct fs)) (hf : fs.toList.map (fun f => (f.name, f.type, f.offset)) = [(n1, t1, o1), (n2, t2, o2)])
  (hn : n1 ≠ "_" ∧ n2 ≠ "_") (hc : Tryz.prog.cellsOf t = cs.length) (h1 : Tryz.prog.cellsOf t1 = c1) (h2 : Tryz.prog.cellsOf t2 = c2) (ha : Tryz.prog.keyLits D t1 ((cs.drop o1).take c1) = some a) (hb : Tryz.prog.keyLits D t2 ((cs.drop o2).take c2) = some b) :
  Tryz.prog.keyLits (D + 1) t cs = some (a ++ b) := by
 obtain ⟨fl⟩ := fs
 match fl, hf with
 | [f1, f2], hf =>
  simp only [List.map_cons, List.map_nil, List.cons.injEq, Prod.mk.injEq, and_true] at hf
  obtain ⟨⟨e1, e2, e3⟩, e4, e5, e6⟩ := hf
  unfold Program.keyLits
  simp only [hu]
  rw [if_pos ⟨hc.symm, by simp [e1, e4, hn.1, hn.2]⟩]
  simp [e2, e3, e5, e6, h1, h2, ha, hb]
theorem yme (D : Nat) (c : Ck) : Tryz.prog.keyLits (D + 3) 36 (cc c).toList = some (z6g c) := by
 refine yjk (a := [Lit.int .u64 (c.epoch.toNat : Int)]) (b := z6f c.root) (c1 := 1) (c2 := 32) zhp zuw (by decide) (by rw [zcj, Array.length_toList, za5]) (by kernel_rfl) (by kernel_rfl) ?_ ?_
 ·
  rw [show ((cc c).toList.drop 0).take 1 = [num c.epoch] from ?_]
  ·
   exact yp0 (D + 1) c.epoch
  ·
   rw [zby]; unfold ccL; simp
 ·
  rw [show ((cc c).toList.drop 1).take 32 = (rc c.root).toList from ?_]
  ·
   exact ymf D c.root
  ·
   rw [zby]; unfold ccL
   simp only [List.cons_append, List.nil_append, List.drop_succ_cons, List.drop_zero]
   exact List.take_of_length_le (by rw [Array.length_toList, zav]; exact Nat.le_refl _)
def ck (c : Ck) : Lit := .string (keyBytes (z6g c))
theorem ytk : (36 : TypeId) < Tryz.prog.types.size := of_decide_eq_true (by kernel_rfl)
theorem yrb : (match Tryz.prog.underlying 36 with | some (.array _ _) | some (.struct _) => true | _ => false) = true := by kernel_rfl
theorem keyed_cc : Keyed Tryz.prog 36 := Keyed.of_law (deep_law_laid ys0 (m := 3) (by omega) ytk (by kernel_rfl) yrb)
theorem zlg (x : Ck) : keyOf Tryz.prog 36 (.agg (cc x)) = some (ck x) := by
 have hkt : Tryz.prog.keyType 36 = true := by kernel_rfl
 have hf : (Value.agg (cc x)).formed Tryz.prog 36 = true := by simp [Value.formed, zcj, za5]
 obtain ⟨D, hD⟩ : ∃ D, Tryz.prog.types.size = D + 2 := ⟨Tryz.prog.types.size - 2, by have : 2 ≤ Tryz.prog.types.size := of_decide_eq_true (by kernel_rfl); omega⟩
 unfold keyOf
 simp only [zhp]
 rw [if_pos (by rw [hkt, hf]; rfl), hD]
 show (Tryz.prog.keyLits (D + 3) 36 (cc x).toList).map _ = _
 rw [yme]; rfl
theorem z83 {a b : Ck} (h : cc a = cc b) : a = b := by
 have h1 := zf7 a; have h2 := zha a
 rw [h, zf7] at h1
 rw [h, zha] at h2
 refine Ck.ext ?_ (yj6 h2).symm
 have : (b.epoch.toNat : Int) = (a.epoch.toNat : Int) := by
  injection h1 with h1
  injection h1
 exact UInt64.toNat_inj.1 (by omega)
theorem ypf {a b : Ck} (h : ck a = ck b) : a = b := by
 have := keyed_cc.inj (zlg a) (by rw [h]; exact zlg b)
 injection this with e
 exact z83 e
theorem z3n (x : Ck) : WideAt.IsKeyLit (ck x) := keyed_cc.key (zlg x)
end
section
open Go.Maps
def yp6 (x : Ed) : List Lit := z6g x.s ++ z6g x.t
def ek (x : Ed) : Lit := .string (keyBytes (yp6 x))
theorem ys1 : laidOutB Tryz.prog = true := by kernel_rfl
theorem ytl : (160 : TypeId) < Tryz.prog.types.size := of_decide_eq_true (by kernel_rfl)
theorem yrc : (match Tryz.prog.underlying 160 with | some (.array _ _) | some (.struct _) => true | _ => false) = true := by kernel_rfl
theorem keyed_ed : Keyed Tryz.prog 160 := Keyed.of_law (deep_law_laid ys1 (m := 4) (by omega) ytl (by kernel_rfl) yrc)
theorem ysy (D : Nat) (x : Ed) : Tryz.prog.keyLits (D + 4) 160 (ed x).toList = some (yp6 x) := by
 refine yjk (a := z6g x.s) (b := z6g x.t) (c1 := 33) (c2 := 33) zwm ylw (by decide) (by rw [zss, Array.length_toList, zia]) zcj zcj ?_ ?_
 ·
  rw [show ((ed x).toList.drop 0).take 33 = (cc x.s).toList from ?_]
  ·
   exact yme D x.s
  ·
   rw [z0j]; unfold edL
   rw [List.drop_zero, List.take_append_of_le_length (by simp [za5])]
   exact List.take_of_length_le (by rw [Array.length_toList, za5]; exact Nat.le_refl _)
 ·
  rw [show ((ed x).toList.drop 33).take 33 = (cc x.t).toList from ?_]
  ·
   exact yme D x.t
  ·
   rw [z0j]; unfold edL
   rw [List.drop_append_of_le_length (by simp [za5]), List.drop_of_length_le (by rw [Array.length_toList, za5]; exact Nat.le_refl _), List.nil_append]
   exact List.take_of_length_le (by rw [Array.length_toList, za5]; exact Nat.le_refl _)
theorem zxt (x : Ed) : keyOf Tryz.prog 160 (.agg (ed x)) = some (ek x) := by
 have hkt : Tryz.prog.keyType 160 = true := by kernel_rfl
 have hf : (Value.agg (ed x)).formed Tryz.prog 160 = true := by simp [Value.formed, zss, zia]
 obtain ⟨D, hD⟩ : ∃ D, Tryz.prog.types.size = D + 3 := ⟨Tryz.prog.types.size - 3, by have : 3 ≤ Tryz.prog.types.size := of_decide_eq_true (by kernel_rfl); omega⟩
 unfold keyOf
 simp only [zwm]
 rw [if_pos (by rw [hkt, hf]; rfl), hD]
 show (Tryz.prog.keyLits (D + 4) 160 (ed x).toList).map _ = _
 rw [ysy]; rfl
theorem ypl {a b : Ed} (h : ed a = ed b) : a = b := by
 have h1 := z28 a; have h2 := z29 a
 rw [h, z28] at h1
 rw [h, z29] at h2
 exact Ed.ext (z83 h1).symm (z83 h2).symm
theorem ypo {a b : Ed} (h : ek a = ek b) : a = b := by
 have := keyed_ed.inj (zxt a) (by rw [h]; exact zxt b)
 injection this with e
 exact ypl e
theorem z3o (x : Ed) : WideAt.IsKeyLit (ek x) := keyed_ed.key (zxt x)
end
section
open Go.Maps
open Go.RowKit Go.Maps
def edOf (k : Lk) : Ed := ⟨k.s, k.t⟩
def edAt (l : List Lk) (i : Nat) : Ed := edOf (lkAt l i)
def iLk (i : Int) : DataW Unit := .lit (.int .i64 i)
def pcD (l : List Lk) : Nat → DataW Unit
 | 0 => .map []
 | k + 1 => if Maps.has (pcD l k) (ek (edAt l k)) = true then pcD l k else (pcD l k).put (ek (edAt l k)) (iLk k)
section
variable {l : List Lk}
theorem zvv {k : Nat} (h : Maps.has (pcD l k) (ek (edAt l k)) = true) : pcD l (k + 1) = pcD l k := if_pos h
theorem z36 {k : Nat} (h : Maps.has (pcD l k) (ek (edAt l k)) = false) : pcD l (k + 1) = (pcD l k).put (ek (edAt l k)) (iLk k) := if_neg (by rw [h]; exact Bool.false_ne_true)
theorem zlv (l : List Lk) : ∀ k, Tidy (pcD l k)
 | 0 => tidy_empty
 | k + 1 => by
  unfold pcD
  split
  ·
   exact zlv l k
  ·
   exact (zlv l k).put (z3o _) _
theorem z1j (l : List Lk) (r : Ed) : ∀ k, Maps.has (pcD l k) (ek r) = true ↔ ∃ i, i < k ∧ edAt l i = r
 | 0 => ⟨fun h => (by cases h), fun ⟨_, h, _⟩ => absurd h (Nat.not_lt_zero _)⟩
 | k + 1 => by
  have ih := z1j l r k
  by_cases hk : Maps.has (pcD l k) (ek (edAt l k)) = true
  ·
   rw [zvv hk, ih]
   constructor
   ·
    rintro ⟨i, hi, e⟩; exact ⟨i, by omega, e⟩
   ·
    rintro ⟨i, hi, e⟩
    by_cases hik : i = k
    ·
     subst hik
     rw [e] at hk
     exact ih.1 hk
    ·
     exact ⟨i, by omega, e⟩
  ·
   rw [z36 (by simpa using hk)]
   by_cases e : edAt l k = r
   ·
    rw [e, has_put_same (zlv l k).isMap (z3o r)]
    exact ⟨fun _ => ⟨k, Nat.lt_succ_self k, e⟩, fun _ => rfl⟩
   ·
    rw [has_put_other (fun h => e (ypo h).symm), ih]
    constructor
    ·
     rintro ⟨i, hi, h⟩; exact ⟨i, by omega, h⟩
    ·
     rintro ⟨i, hi, h⟩
     rcases Nat.lt_succ_iff_lt_or_eq.1 hi with h1 | rfl
     ·
      exact ⟨i, h1, h⟩
     ·
      exact absurd h e
theorem zq2 (l : List Lk) : ∀ k, Maps.size (pcD l k) ≤ k
 | 0 => Nat.le_refl _
 | k + 1 => by
  have ih := zq2 l k
  by_cases hk : Maps.has (pcD l k) (ek (edAt l k)) = true
  ·
   rw [zvv hk]; omega
  ·
   rw [z36 (by simpa using hk), size_put (zlv l k)]
   split <;> omega
theorem z37 (l : List Lk) : ∀ k, Maps.size (pcD l k) = k ↔ ∀ i, i < k → ∀ j, j < i → edAt l j ≠ edAt l i
 | 0 => ⟨fun _ i h => absurd h (Nat.not_lt_zero _), fun _ => rfl⟩
 | k + 1 => by
  have ih := z37 l k
  have hle := zq2 l k
  by_cases hh : Maps.has (pcD l k) (ek (edAt l k)) = true
  ·
   rw [zvv hh]
   obtain ⟨i, hi, e⟩ := (z1j l _ k).1 hh
   exact ⟨fun h => by omega, fun h => absurd e (h k (Nat.lt_succ_self k) i hi)⟩
  ·
   rw [z36 (by simpa using hh), size_put (zlv l k), if_neg hh]
   constructor
   ·
    intro h i hi j hj
    rcases Nat.lt_succ_iff_lt_or_eq.1 hi with h1 | rfl
    ·
     exact ih.1 (by omega) i h1 j hj
    ·
     intro e
     exact hh ((z1j l _ i).2 ⟨j, hj, e⟩)
   ·
    intro h
    have := ih.2 fun i hi j hj => h i (by omega) j hj
    omega
theorem ygz (l : List Lk) : MayK l l.length ↔ (∀ i, i < l.length → okK (lkAt l i)) ∧ Maps.size (pcD l l.length) = l.length := by
 rw [z37]
 have he : ∀ i k, oneB (lkAt l i) (lkAt l k) = false ↔ edAt l k ≠ edAt l i := fun i k => by
  rw [← Bool.not_eq_true, zlu]
  exact not_congr ⟨fun h => Ed.ext h.1.symm h.2.symm, fun h => ⟨(congrArg Ed.s h).symm, (congrArg Ed.t h).symm⟩⟩
 unfold MayK
 constructor
 ·
  intro h
  exact ⟨fun i hi => (h i hi).1, fun i hi j hj => (he i j).1 ((h i hi).2 j hj)⟩
 ·
  intro h i hi
  exact ⟨h.1 i hi, fun k hk => (he i k).2 (h.2 i hi k hk)⟩
end
end
open Go.RowKit
section
variable {P : Program} {ops : Array Oper} {E : List Nat} {L : World → World → Prop} {W : World} {Q : Exit → Act → World → Prop} {α : Type} {F : Lie α}
end
theorem z3r {B : Nat} {W : World} {b o n : Nat} {c : Array Value} (h : ldA W (.pointer (some ⟨b, o, none⟩)) n = some c) (hb : b < B) (p : WdB B W) : ldA p.w (.pointer (some ⟨b, o, none⟩)) n = some c := (zqc p.h b o n hb).trans h
theorem ybb (s t : Ck) (w : World) :
  Calls Tryz.prog 121 #[.agg (cc s), .agg (cc t)] w fun e w' => e = .returned (.bool (decide (s.epoch.toNat < t.epoch.toNat))) ∧ Below w.heap.size w w' := by
 obtain ⟨W0, hW0⟩ : ∃ W0, W0 = (w.alloc (.cells (cc s) 36)).alloc (.cells (cc t) 36) := ⟨_, rfl⟩
 obtain ⟨hB, m0, m1, _⟩ := zdb w _ _ _ _ W0 hW0
 have HB := Lib.hid hB
 have HW := Lib.hid hW0
 have a1 := (ck_v m0).e
 have b1 := (ck_v m1).e
 clear hW0 hB m0 m1
 generalize s.epoch.toNat = A at *
 generalize t.epoch.toNat = B at *
 obtain ⟨E, hE⟩ : ∃ E, E = decide (A < B) := ⟨_, rfl⟩
 rw [← hE]
 have t1 : decide ((A : Int) < (B : Int)) = E := by rw [hE]; congr 1; rw [eq_iff_iff]; omega
 have t1' : decide (A < B) = E := hE.symm
 clear hE
 go_enter Tryz.func121, Tryz.ntmps121
 go_upto_region 1 with fail
 rw [← HW.out]
 go_wp2_with fail
 go_ret
 exact ⟨rfl, HB.out⟩
theorem z3t (k : Lk) (w : World) :
  Calls Tryz.prog 122 #[.agg (lk k)] w fun e w' => e = .returned (.agg (ed (edOf k))) ∧ Below w.heap.size w w' := by
 obtain ⟨W0, hW0⟩ : ∃ W0, W0 = (w.alloc (.cells (lk k) 118)).alloc (.cells (ed zed) 160) := ⟨_, rfl⟩
 obtain ⟨hB, m0, m1, hz⟩ := zdb w _ _ _ _ W0 hW0
 have HB := Lib.hid hB
 have HW := Lib.hid hW0
 have M1 := Lib.hid m1
 have a1 := (lk_v m0).s
 have a2 := (lk_v m0).t
 have z1 := za0 m1 (zia _)
 clear hW0 hB m0 m1 hz
 go_enter Tryz.func122, Tryz.ntmps122
 go_upto_region 1 with fail
 rw [← HW.out]
 go_wp2_with fail
 exact bodyPost_ret (zax Tryz.isAgg160 Tryz.sizeOf160 _ 2 rfl _ _ _ _ rfl (zag (zc4 M1.out (by rw [zia, zia])) (zia _))) rfl ⟨rfl, zap HB.out (Nat.le_succ _)⟩
theorem z6e (k : Lk) (w : World) :
  Calls Tryz.prog 86 #[.agg (lk k)] w fun e w' => e = .returned (.bool (decide (okK k))) ∧ Below w.heap.size w w' := by
 obtain ⟨W0, hW0⟩ : ∃ W0, W0 = w.alloc (.cells (lk k) 118) := ⟨_, rfl⟩
 have hB : Below w.heap.size w W0 := by rw [hW0]; exact below1
 have m0 : W0.heap[w.heap.size]? = some (.cells (lk k) 118 (0, 0)) := by rw [hW0]; exact heap_alloc_last w _
 have HB := Lib.hid hB
 have HW := Lib.hid hW0
 have M0 := Lib.hid m0
 have a1 := (lk_v m0).s
 have a2 := (lk_v m0).t
 have HF := Lib.hid (fun W => ybb k.s k.t W)
 obtain ⟨F, hF⟩ : ∃ F, F = decide (k.s.epoch.toNat < k.t.epoch.toNat) := ⟨_, rfl⟩
 rw [← hF] at HF
 obtain ⟨M, hM⟩ : ∃ M, M = k.mask.toNat := ⟨_, rfl⟩
 have HM := Lib.hid hM
 obtain ⟨E1, hE1⟩ : ∃ E, E = decide (0 < M) := ⟨_, rfl⟩
 obtain ⟨E2, hE2⟩ : ∃ E, E = decide (M ≤ 255) := ⟨_, rfl⟩
 have HR : Hid (decide (okK k) = (F && E1 && E2)) := by
  show _ = _
  rw [hF, hE1, hE2, hM, ← Bool.decide_and, ← Bool.decide_and]
  exact decide_eq_decide.2 ⟨fun ⟨a, b, c⟩ => ⟨⟨a, b⟩, c⟩, fun ⟨⟨a, b⟩, c⟩ => ⟨a, b, c⟩⟩
 rw [HR.out]
 have t1 : decide ((0 : Int) < (M : Int)) = E1 := by rw [hE1]; congr 1; rw [eq_iff_iff]; omega
 have t1' : decide (0 < M) = E1 := hE1.symm
 have t2 : decide ((M : Int) ≤ 255) = E2 := by rw [hE2]; congr 1; rw [eq_iff_iff]; omega
 have t2' : decide (M ≤ 255) = E2 := hE2.symm
 clear hW0 hB m0 hF hM hE1 hE2 HR
 go_enter Tryz.func86, Tryz.ntmps86
 go_upto_region 1 with fail
 rw [← HW.out]
 go_wp2_with fail
 refine (HF.out W0).mono ?_
 rintro e w1 ⟨rfl, g⟩
 have G := Lib.hid (zac HB.out g)
 have c1 := (lk_v (zab g M0.out)).m
 rw [← HM.out] at c1
 clear g a1 a2 HF
 cases F <;> cases E1 <;> cases E2 <;> (
  go_wp2_with fail
  go_ret
  exact ⟨rfl, G.out⟩)
section
open Go.Maps
theorem zy9 {P : Program} {T k e : TypeId} (hu : P.underlying T = some (.map k e)) (n : Int) (w : World) : (Instr.makeMap T (some (.int .i64 n))).run P w = .ok (.map (some w.heap.size)) (w.alloc (.map #[] 0)) := by
 simp only [Instr.makeMap]
 simp [run_underlying hu, asInt]
 rfl
theorem yeb (w : World) : (zeroValue 3).run Tryz.prog w = .ok (.int .i64 0) w := by kernel_rfl
theorem yms {W : World} {b n : Nat} {D : DataW Unit} (h : W.ownsMap Tryz.prog 160 (plainElem Tryz.prog 3) b n D) (r : Ed) : ∃ c : Int,
  (Instr.lookup 125 (.map (some b)) (.agg (ed r)) true).run Tryz.prog W = .ok (.tuple #[.int .i64 c, .bool (Maps.has D (ek r))]) W ∧ D.atKey (ek r) (iLk 0) = iLk c := by
 obtain ⟨v, ps, hrun, hv⟩ := h.look_ok keyed_ed Tryz.underlying125 (yeb W) (plainElem_int Tryz.underlying3 (by decide)) (zxt r)
 obtain ⟨a, rfl, hz, _⟩ := plainElem_int_inv Tryz.underlying3 hv
 exact ⟨a, hrun, congrArg Prod.fst hz⟩
def PlIs (D : DataW Unit) (n : Nat) (w : World) (e : Ending) (w' : World) : Prop := ∃ b, e = .returned (.map (some b)) ∧ w'.ownsMap Tryz.prog 160 (plainElem Tryz.prog 3) b n D ∧ Below w.heap.size w w'
theorem zn8 (p : Option Addr) (n cp : Nat) (l : List Lk) (w : World) (h : SlE Elk w (.slice p n cp) l) (hl : l.length = n) (hn : n ≤ 1000) :
  Calls Tryz.prog 87 #[.slice p n cp] w (PlIs (pcD l n) n w) := by
 have hmm := zy9 (P := Tryz.prog) Tryz.underlying125
 have HL := Lib.hid hl
 have HN := Lib.hid hn
 have HS := Lib.hid h
 clear h hl hn
 go_enter Tryz.func87, Tryz.ntmps87
 go_wp2_with fail
 go_loopw [13] (fun i wr => ∃ j : Nat, j ≤ n ∧ i = .int .i64 (j : Int) ∧ wr.ownsMap Tryz.prog 160 (plainElem Tryz.prog 3) w.heap.size j (pcD l j) ∧ Below w.heap.size w wr) (fun i _ => n - (intOf i).toNat)
 case atStart => exact ⟨0, Nat.zero_le _, rfl, World.ownsMap_made _ _ _ _, below1⟩
 case round =>
  obtain ⟨j, hj, rfl, hown, hb⟩ := hrel
  have HO := Lib.hid hown
  have HBB := Lib.hid hb
  clear hown hb
  by_cases hlt : j < n
  ·
   have i0 : (0 : Int) ≤ (j : Int) := by omega
   have i1 : (j : Int) < (n : Int) := by omega
   have u1 : (j : Int) + 1 < 10000 := by have := HN.out; omega
   obtain ⟨b1, o1, rfl, q1, x1⟩ := zkj HS.out (by have := HL.out; omega)
   have y1 := keep HBB.out (zqg x1 (i := j) (by have := HL.out; omega))
   clear x1 q1
   obtain ⟨x, hx⟩ : ∃ x, x = lkAt l j := ⟨_, rfl⟩
   rw [← hx] at y1
   have HE : Hid (edAt l j = edOf x) := by show _ = _; rw [hx]; rfl
   clear hx
   go_upto_region 5 with fail
   obtain ⟨V, hV⟩ : ∃ V, V = wr.alloc (.cells (lk x) 118) := ⟨_, rfl⟩
   rw [← hV]
   have GV : Hid (Below wr.heap.size wr V) := by show Below _ _ _; rw [hV]; exact below1
   have MV : Hid (V.heap[wr.heap.size]? = some (.cells (lk x) 118 (0, 0))) := by show _ = _; rw [hV]; exact heap_alloc_last _ _
   clear hV y1
   have a1 := (lk_v MV.out).a
   go_wp2_with fail
   refine (z3t x V).mono ?_
   rintro e V1 ⟨rfl, g⟩
   replace GV := Lib.hid (zac GV.out g)
   replace MV := Lib.hid (zab g MV.out)
   clear g a1
   have a1 := (lk_v MV.out).a
   have HO1 := Lib.hid (zci GV.out HO.out)
   obtain ⟨c, Lc, _⟩ := yms HO1.out (edOf x)
   obtain ⟨q, hq⟩ : ∃ q, q = Maps.has (pcD l j) (ek (edOf x)) := ⟨_, rfl⟩
   rw [← hq] at Lc
   have HQ := Lib.hid hq
   clear hq
   cases q
   ·
    have HP : Hid (pcD l (j + 1) = (pcD l j).put (ek (edOf x)) (iLk j)) := by
     show _ = _
     rw [z36 (by rw [HE.out]; exact HQ.out.symm), HE.out]
    go_wp2_with fail
    clear Lc
    refine (z3t x V1).mono ?_
    rintro e V2 ⟨rfl, g⟩
    replace GV := Lib.hid (zac GV.out g)
    clear g a1 HO1
    have HO1 := Lib.hid (zci GV.out HO.out)
    go_wp2_with (at_mapUpdate; refine wpList_mapUpdate_own _ rfl _ _ _ 125 rfl 160 3 keyed_ed Tryz.underlying125 (plainElem Tryz.prog 3) w.heap.size j _ rfl HO1.out (by unfold maxLen; omega) _ _ _ rfl rfl (zxt (edOf x)) _ [] (plainElem_int Tryz.underlying3 (WalkArith.wf_i64 (by omega))) ?_; intro w1 hown1 hgrow1)
    go_roundw
    case rel => exact ⟨j + 1, by omega, by go_num, by rw [HP.out]; exact hown1, (zac HBB.out GV.out).grown hgrow1 (by have := HBB.out.size; have := GV.out.size; omega) (fun k hk => by cases hk; exact Nat.le_refl _)⟩
    case measure => simp [intOf]; omega
   ·
    have HP : Hid (pcD l (j + 1) = pcD l j) := zvv (by rw [HE.out]; exact HQ.out.symm)
    go_wp2_with fail
    go_roundw
    case rel => exact ⟨j + 1, by omega, by go_num, by rw [HP.out]; exact HO1.out.mono (Nat.le_succ _), zac HBB.out GV.out⟩
    case measure => simp [intOf]; omega
  ·
   obtain rfl : j = n := by omega
   clear hlt
   go_wp2_with fail
   go_ret
   exact ⟨_, rfl, HO.out, HBB.out⟩
end
end Go.Proofs.YtkalofboioffiaaGreat
