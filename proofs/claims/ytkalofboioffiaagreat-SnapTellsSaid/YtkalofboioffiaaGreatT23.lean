import Derived.Test.YtkalofboioffiaaGreatT22
namespace Go.Proofs.YtkalofboioffiaaGreat
open Go.RowKit
set_option maxRecDepth 200000
set_option maxHeartbeats 64000000
section
open Go.MapKept Go.ChangeMaps
open Go.RowKit Go.MapKept Go.ChangeMaps
def HoldsI (w : World) (b : Nat) (q : IntKind) (l : List (Int × Value)) : Prop := ∃ (es : Array MapEntry) (clock : Nat), w.heap[b]? = some (.map es clock) ∧ es.toList.map (fun e => (e.key, e.val)) = l.map (fun p => (Value.int q p.1, p.2))
theorem zv9 (w : World) (q : IntKind) : HoldsI (w.alloc (.map #[] 0)) w.heap.size q [] := ⟨#[], 0, heap_alloc_last _ _, rfl⟩
section
variable {w w' : World} {b : Nat} {q : IntKind} {l : List (Int × Value)}
theorem HoldsI.blk (h : HoldsI w b q l) (e : w'.heap[b]? = w.heap[b]?) : HoldsI w' b q l := by
 obtain ⟨es, c, hb, hm⟩ := h
 exact ⟨es, c, e.trans hb, hm⟩
theorem HoldsI.lt (h : HoldsI w b q l) : b < w.heap.size := by
 obtain ⟨es, c, hb, hm⟩ := h
 exact (Array.getElem?_eq_some_iff.1 hb).1
theorem HoldsI.keep (h : HoldsI w b q l) (g : Below w.heap.size w w') : HoldsI w' b q l := h.blk (g.block b h.lt)
theorem zpv {es : Array MapEntry} (hm : es.toList.map (fun e => (e.key, e.val)) = l.map (fun p => (Value.int q p.1, p.2))) : ∀ x ∈ es.toList, ∃ p ∈ l, x.key = .int q p.1 ∧ x.val = p.2 := fun x hx => by
 have h1 : (x.key, x.val) ∈ l.map (fun p => (Value.int q p.1, p.2)) := hm ▸ List.mem_map.2 ⟨x, hx, rfl⟩
 obtain ⟨p, hp, e⟩ := List.mem_map.1 h1
 injection e with e1 e2
 exact ⟨p, hp, e1.symm, e2.symm⟩
variable {P : Program} {t k e : TypeId}
theorem HoldsI.insert (h : HoldsI w b q l) (ht : P.underlying t = some (.map k e)) (hk : P.underlying k = some (.int q)) (n : Int) (v : Value) (hn : ∀ p ∈ l, p.1 ≠ n) :
  ∃ w', (Instr.mapUpdate t (.map (some b)) (.int q n) v).run P w = .ok () w' ∧ HoldsI w' b q (l ++ [(n, v)]) ∧ w.grownBy w' (some b) := by
 obtain ⟨es, c, hb, hm⟩ := h
 have ks := zpv hm
 rcases findNow_spec (d := .int q) (k := .int q n) rfl es.toList 0 (fun x hx => by obtain ⟨p, _, h1, _⟩ := ks x hx; rw [h1]; rfl) with ⟨h1, _⟩ | ⟨j, e0, _, h2, h3⟩
 ·
  refine ⟨setBlock w b (.map (es.push ⟨.int q n, v, c⟩) (c + 1)), ?_, ⟨_, _, heap_setBlock_same hb _, ?_⟩, ⟨rfl, rfl, rfl, by simp [setBlock], fun i _ hi => heap_setBlock_other hb _ (fun e => hi (by rw [e]))⟩⟩
  ·
   simp [Instr.mapUpdate, run_underlying ht, MapKept.run_getObj_map hb, run_checkKey hk (k := .int q n) rfl false 9999, run_findKey hk h1, MapKept.run_setObj_map _ hb, Result.andThen, setBlock]
  ·
   rw [Array.toList_push, List.map_append, List.map_append, hm]; rfl
 ·
  obtain ⟨p, hp, e1, _⟩ := ks e0 (List.mem_of_getElem? h2)
  rw [h3] at e1
  injection e1 with _ e2
  exact absurd e2.symm (hn p hp)
def ztx (l : List (Int × Value)) (z : Value) (n : Int) : Value := match l.find? (fun p => p.1 == n) with | some p => p.2 | none => z
def hasI (l : List (Int × Value)) (n : Int) : Bool := l.any (fun p => p.1 == n)
theorem zps : ∀ (l : List (Int × Value)) (j : Nat) (p : Int × Value), l[j]? = some p → (l.map (·.1)).Nodup → l.find? (fun x => x.1 == p.1) = some p
 | [], _, _, h, _ => by simp at h
 | x :: r, 0, p, h, _ => by
  simp at h
  subst h
  simp
 | x :: r, j + 1, p, h, hd => by
  rw [List.map_cons, List.nodup_cons] at hd
  have hp : p ∈ r := List.mem_of_getElem? (by simpa using h)
  have hx : ¬ x.1 = p.1 := fun e => hd.1 (e ▸ List.mem_map.2 ⟨p, hp, rfl⟩)
  rw [List.find?_cons_of_neg (by simpa using hx)]
  exact zps r j p (by simpa using h) hd.2
theorem HoldsI.look (h : HoldsI w b q l) (ht : P.underlying t = some (.map k e)) (hk : P.underlying k = some (.int q)) (hd : (l.map (·.1)).Nodup) {z : Value} (hz : (zeroValue e).run P w = .ok z w) (n : Int) :
  (Instr.lookup t (.map (some b)) (.int q n) true).run P w = .ok (.tuple #[ztx l z n, .bool (hasI l n)]) w := by
 obtain ⟨es, c, hb, hm⟩ := h
 have ks := zpv hm
 have hck : ∀ em, (Instr.checkKey em 10000 k (.int q n)).run P w = .ok () w := fun em => run_checkKey hk (k := .int q n) rfl em 9999
 rcases findNow_spec (d := .int q) (k := .int q n) rfl es.toList 0 (fun x hx => by obtain ⟨p, _, h1, _⟩ := ks x hx; rw [h1]; rfl) with ⟨h1, h2⟩ | ⟨j, e0, h1, h2, h3⟩
 ·
  have hno : ∀ p ∈ l, ¬ p.1 = n := fun p hp e1 => by
   have : (Value.int q p.1, p.2) ∈ es.toList.map (fun e => (e.key, e.val)) := hm ▸ List.mem_map.2 ⟨p, hp, rfl⟩
   obtain ⟨x, hx, e2⟩ := List.mem_map.1 this
   injection e2 with e3 _
   exact h2 x hx (by rw [e3, e1])
  have f1 : ztx l z n = z := by unfold ztx; rw [List.find?_eq_none.2 (fun p hp => by simpa using hno p hp)]
  have f2 : hasI l n = false := by unfold hasI; rw [List.any_eq_false]; intro p hp; simpa using hno p hp
  rw [f1, f2]
  simp [Instr.lookup, run_underlying ht, MapKept.run_getObj_map hb, hck, run_findKey hk h1, hz, Result.andThen]
 ·
  have hj : (es.toList.map (fun e => (e.key, e.val)))[j]? = some (e0.key, e0.val) := by rw [List.getElem?_map, h2]; rfl
  rw [hm, List.getElem?_map] at hj
  cases hl : l[j]? with
  | none => rw [hl] at hj; cases hj
  | some p =>
   rw [hl] at hj
   injection hj with hj
   injection hj with e1 e2
   rw [h3] at e1
   injection e1 with _ e1
   subst e1
   have ff := zps l j p hl hd
   have f1 : ztx l z p.1 = e0.val := by unfold ztx; rw [ff]; exact e2
   have f2 : hasI l p.1 = true := by unfold hasI; rw [List.any_eq_true]; exact ⟨p, List.mem_of_getElem? hl, by simp⟩
   rw [f1, f2]
   simp [Instr.lookup, run_underlying ht, MapKept.run_getObj_map hb, hck, run_findKey hk h1, Result.andThen]
end
theorem zdl {P : Program} {ops : Array Oper} {rest : List Oper} {o : Oper} {a : Act} {Q : Exit → Act → World → Prop} (w : World) (hg : o.guard = none) (m x v : Operand) (t : TypeId) (hop : o.op = Op.insert t m x v)
  (k e : TypeId) (q : IntKind) (ht : P.underlying t = some (.map k e)) (hk : P.underlying k = some (.int q)) (b : Nat) (l : List (Int × Value)) (hm : a.eval m = .map (some b)) (h : HoldsI w b q l) (n : Int) (val : Value) (hx : a.eval x = .int q n) (hv : a.eval v = val)
  (hn : ∀ p ∈ l, p.1 ≠ n) (hK : ∀ w', HoldsI w' b q (l ++ [(n, val)]) → w.grownBy w' (some b) → wpList P ops Q rest (a.put o.dst undef) w') : wpList P ops Q (o :: rest) a w := by
 refine wpList_plain hg fun K' hK' => ?_
 obtain ⟨w', hrun, r1, r2⟩ := h.insert ht hk n val hn
 unfold Oper.wp
 simp [execOp, hop, hm, hx, hv, hrun, Result.andThen]
 exact hK' _ _ (hK w' r1 r2)
end
def ansL (T : Nat) : List (Int × Value) := [(5, .func (.func 78) #[] #[.pointer (some ⟨T, 0, none⟩)]), (8, .func (.func 79) #[] #[.pointer (some ⟨T, 0, none⟩)]), (6, .func (.func 80) #[] #[.pointer (some ⟨T, 0, none⟩)]), (7, .func (.func 82) #[] #[.pointer (some ⟨T, 0, none⟩)])]
def yhu (x : Sn) (s : Sg) (w : World) (e : Ending) (w' : World) : Prop := ∃ b T : Nat, e = .returned (.map (some b)) ∧ HoldsI w' b .i64 (ansL T) ∧ w'.heap[T]? = some (.cells (sn x) 40 (0, 0)) ∧ LaidS w' x s ∧ Below w.heap.size w w'
theorem z9d (T : Nat) (n : Int) (h5 : ¬ n = 5) (h8 : ¬ n = 8) (h6 : ¬ n = 6) (h7 : ¬ n = 7) : hasI (ansL T) n = false ∧ ztx (ansL T) .nilFunc n = .nilFunc := by
 have e5 : ((5 : Int) == n) = false := by rw [beq_eq_false_iff_ne]; exact fun e => h5 e.symm
 have e8 : ((8 : Int) == n) = false := by rw [beq_eq_false_iff_ne]; exact fun e => h8 e.symm
 have e6 : ((6 : Int) == n) = false := by rw [beq_eq_false_iff_ne]; exact fun e => h6 e.symm
 have e7 : ((7 : Int) == n) = false := by rw [beq_eq_false_iff_ne]; exact fun e => h7 e.symm
 constructor
 ·
  unfold hasI ansL; simp only [List.any_cons, List.any_nil, e5, e8, e6, e7, Bool.or_self]
 ·
  unfold ztx ansL; simp only [List.find?_cons, List.find?_nil, e5, e8, e6, e7]
theorem zin {w W W' : World} {b : Nat} (h : Below w.heap.size w W) (hb : w.heap.size ≤ b) (g : W.grownBy W' (some b)) : Below w.heap.size w W' := h.grown g (h.size) (fun k hk => by cases hk; exact hb)
theorem zlq {W W' : World} {T b : Nat} {o : Obj} (h : W.heap[T]? = some o) (hne : b ≠ T) (g : W.grownBy W' (some b)) : W'.heap[T]? = some o := (g.block T (Array.getElem?_eq_some_iff.1 h).1 (by intro e; injection e with e; exact hne e.symm)).trans h
theorem zw4 (x : Sn) (s : Sg) (w : World) (h : LaidS w x s) : Calls Tryz.prog 39 #[.agg (sn x)] w (yhu x s w) := by
 obtain ⟨W0, hW0⟩ : ∃ W0, W0 = w.alloc (.cells (sn x) 40) := ⟨_, rfl⟩
 have A : Hid (Sw w W0 w.heap.size x s) := by rw [hW0]; exact z8c h
 have HW := Lib.hid hW0
 have HS : Hid (W0.heap.size = w.heap.size + 1) := by show _ = _; rw [hW0]; exact World.size_alloc _ _
 clear hW0
 go_enter Tryz.func39, Tryz.ntmps39
 go_upto_region 1 with fail
 rw [← HW.out]
 have hmm := @run_makeMap Tryz.prog
 have m0 := Lib.hid (zv9 W0 .i64)
 have B0 : Hid (Below w.heap.size w (W0.alloc (.map #[] 0))) := zab A.out.g below1
 have T0 : Hid ((W0.alloc (.map #[] 0)).heap[w.heap.size]? = some (.cells (sn x) 40 (0, 0))) := zac below1 A.out.box
 have hb : w.heap.size ≤ W0.heap.size := by have := HS.out; omega
 have HN : Hid (W0.heap.size ≠ w.heap.size) := by show _ ≠ _; have := HS.out; omega
 go_wp2_with (first | (refine zdl _ rfl _ _ _ 85 rfl 3 83 .i64 Tryz.underlying85 Tryz.underlying3 W0.heap.size _ rfl m0.out 5 _ rfl rfl (by simp) ?_; intro w1 h1 g1) | (refine zdl _ rfl _ _ _ 85 rfl 3 83 .i64 Tryz.underlying85 Tryz.underlying3 W0.heap.size _ rfl h1 8 _ rfl rfl (by simp) ?_; intro w2 h2 g2) | (refine zdl _ rfl _ _ _ 85 rfl 3 83 .i64 Tryz.underlying85 Tryz.underlying3 W0.heap.size _ rfl h2 6 _ rfl rfl (by simp) ?_; intro w3 h3 g3) | (refine zdl _ rfl _ _ _ 85 rfl 3 83 .i64 Tryz.underlying85 Tryz.underlying3 W0.heap.size _ rfl h3 7 _ rfl rfl (by simp) ?_; intro w4 h4 g4))
 have B1 : Hid (Below w.heap.size w w1) := zin B0.out hb g1
 have T1 : Hid (w1.heap[w.heap.size]? = some (.cells (sn x) 40 (0, 0))) := zlq T0.out HN.out g1
 have B2 : Hid (Below w.heap.size w w2) := zin B1.out hb g2
 have T2 : Hid (w2.heap[w.heap.size]? = some (.cells (sn x) 40 (0, 0))) := zlq T1.out HN.out g2
 have B3 : Hid (Below w.heap.size w w3) := zin B2.out hb g3
 have T3 : Hid (w3.heap[w.heap.size]? = some (.cells (sn x) 40 (0, 0))) := zlq T2.out HN.out g3
 have B4 : Hid (Below w.heap.size w w4) := zin B3.out hb g4
 have T4 : Hid (w4.heap[w.heap.size]? = some (.cells (sn x) 40 (0, 0))) := zlq T3.out HN.out g4
 go_ret
 exact ⟨_, _, rfl, h4, T4.out, h.keep B4.out, B4.out⟩
theorem zix : ∀ args w, (callFunc 39 args).run Tryz.prog w = .ok (.enter 39 args) w := za7 Tryz.func39 (by kernel_rfl) (by kernel_rfl)
theorem ydg (w : World) : (zeroValue 83).run Tryz.prog w = .ok .nilFunc w := by kernel_rfl
theorem z7e (x : Sn) (s : Sg) (c : Cl) (w : World) (h : LaidS w x s) :
  Calls Tryz.prog 17 #[.agg (sn x), .agg (cl c)] w fun e w' => e = .returned (.agg (rs (rsOf (askN s c.kind c.a c.b c.slot.toNat)))) ∧ Below w.heap.size w w' := by
 obtain ⟨W0, hW0⟩ : ∃ W0, W0 = ((w.alloc (.cells (sn x) 40)).alloc (.cells (cl c) 43)).alloc (.cells (rs zrs) 51) := ⟨_, rfl⟩
 obtain ⟨hB, q0, q1, q2, _⟩ := zf2 w _ _ _ _ _ _ W0 hW0
 have A : Hid (Sw w W0 w.heap.size x s) := ⟨q0, h.keep hB, hB⟩
 have MC : Hid (W0.heap[w.heap.size + 1]? = some (.cells (cl c) 43 (0, 0))) := q1
 have MR : Hid (W0.heap[w.heap.size + 1 + 1]? = some (.cells (rs zrs) 51 (0, 0))) := q2
 have HW := Lib.hid hW0
 have HAn := Lib.hid (fun W hh => zw4 x s W hh)
 have HM := Lib.hid (fun W hh => zue x s W hh)
 obtain ⟨m, hm⟩ : ∃ m, m = mayN s := ⟨_, rfl⟩
 obtain ⟨R, hR⟩ : ∃ R, R = rsOf (askN s c.kind c.a c.b c.slot.toNat) := ⟨_, rfl⟩
 rw [← hR]
 rw [← hm] at HM
 have HR := Lib.hid hR
 have HMy := Lib.hid hm.symm
 clear hW0 hB q0 q1 q2 h hm hR
 go_enter Tryz.func17, Tryz.ntmps17
 go_upto_region 1 with fail
 rw [← HW.out]
 have z := A.out.z
 have zk := zmi MC.out
 have L0 := fun p : Wd W0.drew => zbb z (by decide) p
 have L1 := fun p : Wd W0.drew => zbc zk p
 clear z zk
 refine zaj [1] (by kernel_rfl) (by kernel_rfl) (by kernel_rfl) ?_
 repeat (first | (refine zae rfl rfl _ zaf ?_; (first | go_big_quiet_step (fail) | quiet_step (fail)); refine wpQuiet_nil ?_) | refine zag rfl ?_)
 refine zan rfl rfl rfl zix #[.agg (sn x)] rfl ?_
 refine (HAn.out _ (A.out.l.keep (zah (Below.refl _ _) 1))).mono ?_
 rintro e u ⟨b, T, rfl, hm, hT, hl, g⟩
 refine ⟨_, rfl, g, ?_⟩
 simp only [Act.put, List.setIfInBounds_toArray, List.set_cons_zero, List.set_cons_succ]
 have GB : Hid (Below W0.heap.size W0 u) := zab (zah (Below.refl _ _) 1) g
 have HT := Lib.hid hT
 have HL := Lib.hid hl
 have Lk := fun q : Wd u => (hm.keep q.h).look (P := Tryz.prog) (t := 85) (e := 83) Tryz.underlying85 Tryz.underlying3 (by show ([5, 8, 6, 7] : List Int).Nodup; decide) (ydg q.w) c.kind
 obtain ⟨F, hF⟩ : ∃ F, F = ztx (ansL T) .nilFunc c.kind := ⟨_, rfl⟩
 obtain ⟨I, hI⟩ : ∃ I, I = hasI (ansL T) c.kind := ⟨_, rfl⟩
 rw [← hF, ← hI] at Lk
 have HF := Lib.hid hF
 have HI := Lib.hid hI
 clear g hT hl hm hF hI
 repeat (first | (refine zae rfl rfl _ zaf ?_; (first | go_big_quiet_step (fail) | quiet_step (fail)); refine wpQuiet_nil ?_) | refine zag rfl ?_)
 refine zae rfl rfl u (z4k 1 u (by simp) (by kernel_rfl)) ?_
 (first | go_big_quiet_step (fail) | quiet_step (fail))
 refine wpQuiet_nil ?_
 repeat (first | (refine zae rfl rfl _ zaf ?_; (first | go_big_quiet_step (fail) | quiet_step (fail)); refine wpQuiet_nil ?_) | refine zag rfl ?_)
 refine za3 ?_
 clear L0 L1 Lk HAn
 replace A := Lib.hid (A.out.keep GB.out)
 replace MC := Lib.hid (zac GB.out MC.out)
 replace MR := Lib.hid (zac GB.out MR.out)
 clear GB
 obtain ⟨w2, rfl⟩ : ∃ W : World, W = u := ⟨_, rfl⟩
 by_cases h5 : c.kind = 5
 ·
  have h1 := HF.out
  have h2 := HI.out
  rw [h5] at h1 h2
  obtain rfl : F = .func (.func 78) #[] #[.pointer (some ⟨T, 0, none⟩)] := h1
  obtain rfl : I = true := h2
  clear HF HI
  have z := A.out.z
  go_wp2_with fail
  refine (HM.out _ A.out.l).mono ?_
  rintro e w3 ⟨rfl, g⟩
  replace A := Lib.hid (A.out.keep g)
  replace MC := Lib.hid (zac g MC.out)
  replace MR := Lib.hid (zac g MR.out)
  replace HT := Lib.hid (zac g HT.out)
  replace HL := Lib.hid (HL.out.keep g)
  clear g z HM
  cases m
  ·
   have e1 := HR.out
   unfold askN at e1
   rw [if_neg (by rw [HMy.out]; exact Bool.false_ne_true)] at e1
   obtain rfl : R = ⟨1, zr, false, zcc⟩ := by rw [e1]; rfl
   have yw := zau MR.out (zap _)
   go_wp2_with fail
   exact bodyPost_ret (zao Tryz.isAgg51 Tryz.sizeOf51 _ 4 rfl _ _ _ _ rfl (za4 MR.out (zap _) (zap _))) rfl ⟨rfl, zas A.out.g (by omega)⟩
  ·
   have HP := Lib.hid (fun W hh hl => zw3 T x s c W hh hl)
   have hr := HR.out
   have e1 := zl9 HMy.out 5 c.a c.b c.slot.toNat
   rw [h5, e1] at hr
   obtain rfl : R = ⟨0, s.head, false, zcc⟩ := by rw [hr]; rfl
   clear e1
   have zc := zar MC.out (zj5 _)
   go_wp2_with fail
   refine (HP.out _ HT.out HL.out).mono ?_
   rintro e w4 ⟨rfl, g⟩
   replace A := Lib.hid (A.out.keep g)
   replace MR := Lib.hid (zac g MR.out)
   clear g zc HP
   have yw := zau MR.out (zap _)
   go_wp2_with fail
   exact bodyPost_ret (zao Tryz.isAgg51 Tryz.sizeOf51 _ 4 rfl _ _ _ _ rfl (za4 MR.out (zap _) (zap _))) rfl ⟨rfl, zas A.out.g (by omega)⟩
 by_cases h8 : c.kind = 8
 ·
  have h1 := HF.out
  have h2 := HI.out
  rw [h8] at h1 h2
  obtain rfl : F = .func (.func 79) #[] #[.pointer (some ⟨T, 0, none⟩)] := h1
  obtain rfl : I = true := h2
  clear HF HI
  have z := A.out.z
  go_wp2_with fail
  refine (HM.out _ A.out.l).mono ?_
  rintro e w3 ⟨rfl, g⟩
  replace A := Lib.hid (A.out.keep g)
  replace MC := Lib.hid (zac g MC.out)
  replace MR := Lib.hid (zac g MR.out)
  replace HT := Lib.hid (zac g HT.out)
  replace HL := Lib.hid (HL.out.keep g)
  clear g z HM
  cases m
  ·
   have e1 := HR.out
   unfold askN at e1
   rw [if_neg (by rw [HMy.out]; exact Bool.false_ne_true)] at e1
   obtain rfl : R = ⟨1, zr, false, zcc⟩ := by rw [e1]; rfl
   have yw := zau MR.out (zap _)
   go_wp2_with fail
   exact bodyPost_ret (zao Tryz.isAgg51 Tryz.sizeOf51 _ 4 rfl _ _ _ _ rfl (za4 MR.out (zap _) (zap _))) rfl ⟨rfl, zas A.out.g (by omega)⟩
  ·
   have HP := Lib.hid (fun W hh hl => z1z T x s c W hh hl)
   have hr := HR.out
   have e1 := zl9 HMy.out 8 c.a c.b c.slot.toNat
   rw [h8, e1] at hr
   obtain rfl : R = ⟨0, zr, false, s.fin⟩ := by rw [hr]; rfl
   clear e1
   have zc := zar MC.out (zj5 _)
   go_wp2_with fail
   refine (HP.out _ HT.out HL.out).mono ?_
   rintro e w4 ⟨rfl, g⟩
   replace A := Lib.hid (A.out.keep g)
   replace MR := Lib.hid (zac g MR.out)
   clear g zc HP
   have yw := zau MR.out (zap _)
   go_wp2_with fail
   exact bodyPost_ret (zao Tryz.isAgg51 Tryz.sizeOf51 _ 4 rfl _ _ _ _ rfl (za4 MR.out (zap _) (zap _))) rfl ⟨rfl, zas A.out.g (by omega)⟩
 by_cases h6 : c.kind = 6
 ·
  have h1 := HF.out
  have h2 := HI.out
  rw [h6] at h1 h2
  obtain rfl : F = .func (.func 80) #[] #[.pointer (some ⟨T, 0, none⟩)] := h1
  obtain rfl : I = true := h2
  clear HF HI
  have z := A.out.z
  go_wp2_with fail
  refine (HM.out _ A.out.l).mono ?_
  rintro e w3 ⟨rfl, g⟩
  replace A := Lib.hid (A.out.keep g)
  replace MC := Lib.hid (zac g MC.out)
  replace MR := Lib.hid (zac g MR.out)
  replace HT := Lib.hid (zac g HT.out)
  replace HL := Lib.hid (HL.out.keep g)
  clear g z HM
  cases m
  ·
   have e1 := HR.out
   unfold askN at e1
   rw [if_neg (by rw [HMy.out]; exact Bool.false_ne_true)] at e1
   obtain rfl : R = ⟨1, zr, false, zcc⟩ := by rw [e1]; rfl
   have yw := zau MR.out (zap _)
   go_wp2_with fail
   exact bodyPost_ret (zao Tryz.isAgg51 Tryz.sizeOf51 _ 4 rfl _ _ _ _ rfl (za4 MR.out (zap _) (zap _))) rfl ⟨rfl, zas A.out.g (by omega)⟩
  ·
   have HP := Lib.hid (fun W hh hl => z1y T x s c W hh hl HMy.out)
   have hr := HR.out
   rw [h6] at hr
   rw [← hr] at HP
   clear hr
   have zc := zar MC.out (zj5 _)
   go_wp2_with fail
   refine (HP.out _ HT.out HL.out).mono ?_
   rintro e w4 ⟨rfl, g⟩
   replace A := Lib.hid (A.out.keep g)
   replace MR := Lib.hid (zac g MR.out)
   clear g zc HP
   have yw := zau MR.out (zap _)
   go_wp2_with fail
   exact bodyPost_ret (zao Tryz.isAgg51 Tryz.sizeOf51 _ 4 rfl _ _ _ _ rfl (za4 MR.out (zap _) (zap _))) rfl ⟨rfl, zas A.out.g (by omega)⟩
 by_cases h7 : c.kind = 7
 ·
  have h1 := HF.out
  have h2 := HI.out
  rw [h7] at h1 h2
  obtain rfl : F = .func (.func 82) #[] #[.pointer (some ⟨T, 0, none⟩)] := h1
  obtain rfl : I = true := h2
  clear HF HI
  have z := A.out.z
  go_wp2_with fail
  refine (HM.out _ A.out.l).mono ?_
  rintro e w3 ⟨rfl, g⟩
  replace A := Lib.hid (A.out.keep g)
  replace MC := Lib.hid (zac g MC.out)
  replace MR := Lib.hid (zac g MR.out)
  replace HT := Lib.hid (zac g HT.out)
  replace HL := Lib.hid (HL.out.keep g)
  clear g z HM
  cases m
  ·
   have e1 := HR.out
   unfold askN at e1
   rw [if_neg (by rw [HMy.out]; exact Bool.false_ne_true)] at e1
   obtain rfl : R = ⟨1, zr, false, zcc⟩ := by rw [e1]; rfl
   have yw := zau MR.out (zap _)
   go_wp2_with fail
   exact bodyPost_ret (zao Tryz.isAgg51 Tryz.sizeOf51 _ 4 rfl _ _ _ _ rfl (za4 MR.out (zap _) (zap _))) rfl ⟨rfl, zas A.out.g (by omega)⟩
  ·
   have HP := Lib.hid (fun W hh hl => zw2 T x s c W hh hl HMy.out)
   have hr := HR.out
   rw [h7] at hr
   rw [← hr] at HP
   clear hr
   have zc := zar MC.out (zj5 _)
   go_wp2_with fail
   refine (HP.out _ HT.out HL.out).mono ?_
   rintro e w4 ⟨rfl, g⟩
   replace A := Lib.hid (A.out.keep g)
   replace MR := Lib.hid (zac g MR.out)
   clear g zc HP
   have yw := zau MR.out (zap _)
   go_wp2_with fail
   exact bodyPost_ret (zao Tryz.isAgg51 Tryz.sizeOf51 _ 4 rfl _ _ _ _ rfl (za4 MR.out (zap _) (zap _))) rfl ⟨rfl, zas A.out.g (by omega)⟩
 have h1 := HF.out
 have h2 := HI.out
 obtain ⟨n1, n2⟩ := z9d T c.kind h5 h8 h6 h7
 rw [n2] at h1
 rw [n1] at h2
 obtain rfl : F = .nilFunc := h1
 obtain rfl : I = false := h2
 clear HF HI n1 n2
 have e1 := HR.out
 unfold askN at e1
 rw [if_neg h5, if_neg h8, if_neg h6, if_neg h7, ite_self] at e1
 obtain rfl : R = ⟨1, zr, false, zcc⟩ := by rw [e1]; rfl
 have yw := zau MR.out (zap _)
 go_wp2_with fail
 exact bodyPost_ret (zao Tryz.isAgg51 Tryz.sizeOf51 _ 4 rfl _ _ _ _ rfl (za4 MR.out (zap _) (zap _))) rfl ⟨rfl, zas A.out.g (by omega)⟩
theorem zzy (s : SlV) (l : List Nd) (i : Int) (w : World) (h : SlE Ene w (sv s) l) :
  Calls Tryz.prog 24 #[.agg (tr ⟨s⟩), .int .i64 i] w (IntsIs (zhu l i) w) := by
 have HP := Lib.hid (fun W (g : Below w.heap.size w W) => zhc s l i W (zad g h))
 have HL := Lib.hid (zbk h)
 obtain ⟨p, n, cp⟩ := s
 dsimp only at HL
 obtain ⟨a, ha⟩ : ∃ a, a = isT l i := ⟨_, rfl⟩
 rw [← ha] at HP
 obtain ⟨W0, hW0⟩ : ∃ W0, W0 = w.alloc (.cells (tr ⟨⟨p, n, cp⟩⟩) 24) := ⟨_, rfl⟩
 have HB : Hid (Below w.heap.size w W0) := by rw [hW0]; exact below1
 have M0 : Hid (W0.heap[w.heap.size]? = some (.cells (tr ⟨⟨p, n, cp⟩⟩) 24 (0, 0))) := by rw [hW0]; exact heap_alloc_last w _
 have HS := Lib.hid h
 have HW := Lib.hid hW0
 have HA := Lib.hid ha
 clear hW0 h ha
 cases a
 ·
  have HE : Hid (zhu l i = []) := zti HA.out.symm
  go_enter Tryz.func24, Tryz.ntmps24
  go_wp2_with fail
  rw [← HW.out]
  refine (HP.out W0 HB.out).mono ?_
  rintro e w1 ⟨rfl, g1⟩
  have G1 := Lib.hid (zab HB.out g1)
  clear g1
  go_wp2_with fail
  go_ret
  exact ⟨_, rfl, by rw [HE.out]; exact za8 _ _ _, G1.out⟩
 ·
  obtain ⟨hm, hi0, hi1⟩ := zb2.1 HA.out.symm
  obtain ⟨i', rfl⟩ : ∃ i' : Nat, i = i' := ⟨i.toNat, by omega⟩
  have HE : Hid (zhu l (i' : Int) = zcq l i' n) := by show _ = _; rw [znb hm (by omega), HL.out]
  have HN : Hid (n ≤ 12) := by show n ≤ 12; have := hm.le; have := HL.out; omega
  obtain ⟨b1, o1, rfl, q1, x1⟩ := zcj HS.out hm.pos
  clear hi0 hi1 HA hm
  go_enter Tryz.func24, Tryz.ntmps24
  go_wp2_with fail
  rw [← HW.out]
  refine (HP.out W0 HB.out).mono ?_
  rintro e w1 ⟨rfl, g1⟩
  have G1 := Lib.hid (zab HB.out g1)
  have M1 := Lib.hid (zac g1 M0.out)
  have X1 := Lib.hid (zbu G1.out x1)
  obtain ⟨z0, z1, zl⟩ := zai M1.out
  dsimp only at z0
  rw [za0] at z0
  clear g1 x1 q1
  go_wp2_with fail
  go_loopw [5, 15] (fun v i wr => ∃ j : Nat, j ≤ n ∧ i = .int .i64 (j : Int) ∧ OwnE Eint wr w1.heap.size v (zcq l i' j) ∧ Below w1.heap.size w1 wr) (fun _ i _ => n - (intOf i).toNat)
  case atStart => exact ⟨0, Nat.zero_le _, rfl, za8 _ _ _, Below.refl _ _⟩
  case round =>
   obtain ⟨j, hj, rfl, hown, hb⟩ := hrel
   have HO := Lib.hid hown
   have HBB := Lib.hid hb
   obtain ⟨z0, z1, zl⟩ := zai (zac hb M1.out)
   dsimp only at z0
   rw [za0] at z0
   clear hown hb
   by_cases hlt : j < n
   ·
    have i0 : (0 : Int) ≤ (j : Int) := by omega
    have i1 : (j : Int) < (n : Int) := by omega
    have u1 : (j : Int) + 1 < 10000 := by have := HN.out; omega
    have y1 := keep HBB.out (show ldA w1 (.pointer (some ⟨b1, o1 + j * 35, none⟩)) 35 = some (ne (nd l j)) from zjd X1.out (by have := HL.out; omega))
    have HXn : Hid (∃ x, x = nd l j) := ⟨_, rfl⟩
    obtain ⟨x, hx⟩ := HXn.out
    rw [← hx] at y1
    have HXx := Lib.hid hx
    clear HXn hx
    by_cases he : x.parent = (i' : Int)
    ·
     have t1 : (x.parent == (i' : Int)) = true := by simpa using he
     have HE2 : Hid (zcq l i' (j + 1) = zcq l i' j ++ [(j : Int)]) := zpy (by rw [← HXx.out]; exact he)
     have HLn := Lib.hid (zpx l i' j)
     clear he
     go_wp2_with (at_builtin; refine za1 Kint _ rfl (.tmp 24) (.tmp 26) rfl w1.heap.size _ (zcq l i' j) rfl (zaw (zaw HO.out _) _) _ [(j : Int)] rfl (zdu _ [(j : Int)] 1 _ _ _ rfl (by simp) rfl) (by have := HLn.out; have := HN.out; simp; omega) (by have := HBB.out.size; simp; omega) ?_; intro v2 w2 ho2 hg2)
     go_roundw
     case rel => exact ⟨j + 1, by omega, by go_num, by rw [HE2.out]; exact ho2, (zab HBB.out (zab below1 below1)).trans (hg2.own (zaw (zaw HO.out _) _) (by have := HBB.out.size; simp; omega))⟩
     case measure => simp [intOf]; omega
    ·
     have t1 : (x.parent == (i' : Int)) = false := by simpa using he
     have HE2 : Hid (zcq l i' (j + 1) = zcq l i' j) := ztj (by rw [← HXx.out]; exact he)
     clear he
     go_wp2_with fail
     go_roundw
     case rel => exact ⟨j + 1, by omega, by go_num, by rw [HE2.out]; exact zaw HO.out _, zab HBB.out below1⟩
     case measure => simp [intOf]; omega
   ·
    obtain rfl : j = n := by omega
    clear hlt
    go_wp2_with fail
    go_ret
    exact ⟨_, rfl, by rw [HE.out]; exact zbi HO.out G1.out.size, zab G1.out HBB.out⟩
def selN (p : Nat → Bool) (n : Nat) : List Nat := (List.range n).filter p
def selI (p : Nat → Bool) (n : Nat) : List Int := (selN p n).map fun k : Nat => (k : Int)
theorem ycl {p : Nat → Bool} {j : Nat} (h : p j = true) : selI p (j + 1) = selI p j ++ [(j : Int)] := by
 unfold selI selN
 rw [List.range_succ, List.filter_append, List.map_append]
 simp [h]
theorem ygw {p : Nat → Bool} {j : Nat} (h : p j = false) : selI p (j + 1) = selI p j := by
 unfold selI selN
 rw [List.range_succ, List.filter_append, List.map_append]
 simp [h]
theorem zzr (p : Nat → Bool) (n : Nat) : (selN p n).length ≤ n := by
 unfold selN
 have := List.length_filter_le p (List.range n)
 rwa [List.length_range] at this
theorem yck (p : Nat → Bool) (n : Nat) : (selI p n).length ≤ n := by
 unfold selI
 rw [List.length_map]
 exact zzr p n
theorem ybf {p : Nat → Bool} {n k : Nat} : k ∈ selN p n ↔ k < n ∧ p k = true := by
 unfold selN
 rw [List.mem_filter, List.mem_range]
def yec (L : List Bool) (w : World) (e : Ending) (w' : World) : Prop := ∃ v, e = .returned v ∧ SlE Eboo w' v L ∧ Below w.heap.size w w'
theorem BoosIs.list {L : List Bool} {w w' : World} {e : Ending} (h : BoosIs L w e w') : yec L w e w' := by
 obtain ⟨v, h1, h2, h3⟩ := h
 exact ⟨v, h1, za2 h2, h3⟩
def yhs : Prop := ∀ (s : SlV) (l : List Nd) (just : Nat) (fin : Int) (w : World), just < 18446744073709551616 → SlE Ene w (sv s) l → Calls Tryz.prog 62 #[.agg (tr ⟨s⟩), .int .u64 (just : Int), .int .i64 fin] w (yec (zp1 l just fin) w)
def yli : Prop := ∀ (s : SlV) (l : List Nd) (r : Rt) (fin : Int) (w : World), SlE Ene w (sv s) l → Calls Tryz.prog 64 #[.agg (tr ⟨s⟩), .agg (rc r), .int .i64 fin] w fun e w' => e = .returned (.int .i64 (zm5 l r fin)) ∧ Below w.heap.size w w'
theorem zmw : ∀ args w, (callFunc 64 args).run Tryz.prog w = .ok (.enter 64 args) w := za7 Tryz.func64 (by kernel_rfl) (by kernel_rfl)
theorem z3c (g : Nat) (lb : Array Value) (eg : ∀ args w, (callFunc g args).run Tryz.prog w = .ok (.enter g args) w) (pr : Nat → Bool) (p : Option Addr) (n cp : Nat) (l : List Nd) (w : World) (h : SlE Ene w (.slice p n cp) l) (hl : l.length = n) (hn : n ≤ 1000)
  (hp : ∀ (k : Nat) (W : World), k < n → Below w.heap.size w W → Calls Tryz.prog g (#[.int .i64 (k : Int), .agg (ne (nd l k))] ++ lb) W fun e W' => e = .returned (.bool (pr k)) ∧ Below W.heap.size W W') :
  Calls Tryz.prog 139 #[.slice p n cp, .func (.func g) #[] lb] w (IntsIs (selI pr n) w) := by
 have HS := Lib.hid h
 have HL := Lib.hid hl
 have HN := Lib.hid hn
 have HP := Lib.hid hp
 clear h hl hn hp
 go_enter Tryz.func139, Tryz.ntmps139
 go_wp2_with fail
 go_loopw [5, 10] (fun v k wr => ∃ j : Nat, j ≤ n ∧ k = .int .i64 (j : Int) ∧ OwnE Eint wr w.heap.size v (selI pr j) ∧ Below w.heap.size w wr) (fun _ k _ => n - (intOf k).toNat)
 case atStart => exact ⟨0, Nat.zero_le _, rfl, za8 _ _ _, Below.refl _ _⟩
 case round =>
  obtain ⟨j, hj, rfl, hown, hb⟩ := hrel
  have HO := Lib.hid hown
  have HB := Lib.hid hb
  clear hown hb
  by_cases hlt : j < n
  ·
   obtain ⟨b1, o1, rfl, q1, x1⟩ := zcj HS.out (by have := HL.out; omega)
   have y1 := zjd (zbu HB.out x1) (i := j) (by have := HL.out; omega)
   have i0 : (0 : Int) ≤ (j : Int) := by omega
   have i1 : (j : Int) < (n : Int) := by omega
   have u1 : (j : Int) + 1 < 10000 := by have := HN.out; omega
   have HLT := Lib.hid hlt
   obtain ⟨W1, hW1⟩ : ∃ W1, W1 = wr.alloc (.cells (ne (nd l j)) 63) := ⟨_, rfl⟩
   have B1 : Hid (Below w.heap.size w W1) := by rw [hW1]; exact zab HB.out below1
   have O1 := Lib.hid (zaw HO.out (.cells (ne (nd l j)) 63))
   rw [← hW1] at O1
   have HQ := Lib.hid (HP.out j W1 hlt B1.out)
   have HW := Lib.hid hW1
   obtain ⟨x, hx⟩ : ∃ x, x = nd l j := ⟨_, rfl⟩
   rw [← hx] at y1 HQ HW
   obtain ⟨r, hr⟩ : ∃ r, r = pr j := ⟨_, rfl⟩
   rw [← hr] at HQ
   have HR := Lib.hid hr.symm
   clear hlt q1 x1 hx hr hW1
   go_wp2_with fail
   rw [← HW.out]
   refine HQ.out.mono ?_
   rintro e w2 ⟨rfl, g2⟩
   have G2 := Lib.hid (zab B1.out g2)
   have O2 := Lib.hid (za5 g2 O1.out)
   have HLn := Lib.hid (yck pr j)
   clear g2 y1
   cases r
   ·
    have HE := Lib.hid (ygw HR.out)
    go_wp2_with fail
    go_roundw
    case rel => exact ⟨j + 1, HLT.out, by go_num, by rw [HE.out]; exact O2.out, G2.out⟩
    case measure => simp [intOf]; have := HLT.out; omega
   ·
    have HE := Lib.hid (ycl HR.out)
    go_wp2_with (at_builtin; refine za1 Kint _ rfl (.tmp 19) (.tmp 21) rfl w.heap.size _ (selI pr j) rfl (zaw O2.out _) _ [(j : Int)] rfl (zdu _ [(j : Int)] 1 _ _ _ rfl (by simp) rfl) (by have := HLn.out; have := HN.out; have := HLT.out; simp; omega) (by have := G2.out.size; simp; omega) ?_; intro v2 w3 ho3 hg3)
    go_roundw
    case rel => exact ⟨j + 1, HLT.out, by go_num, by rw [HE.out]; exact ho3, (zab G2.out below1).trans (hg3.own (zaw O2.out _) (by have := G2.out.size; simp; omega))⟩
    case measure => simp [intOf]; have := HLT.out; omega
  ·
   obtain rfl : j = n := by omega
   clear hlt
   go_wp2_with fail
   go_ret
   exact ⟨_, rfl, HO.out, HB.out⟩
theorem z07 {l : List Nd} {i : Int} : decide (z09 l i = []) = ((zhu l i).length == 0) := by
 rw [Bool.eq_iff_iff, decide_eq_true_iff, beq_iff_eq]
 unfold zhu
 rw [List.length_map, List.length_eq_zero_iff]
theorem z3a (bj bt bf : Nat) (s : SlV) (l : List Nd) (j : Nat) (f : Int) (k : Nat) (w : World) (h : SlE Ene w (sv s) l)
  (M0 : w.heap[bt]? = some (.cells (tr ⟨s⟩) 24 (0, 0))) (M1 : w.heap[bj]? = some (.cells #[.int .u64 (j : Int)] 27 (0, 0))) (M2 : w.heap[bf]? = some (.cells #[.int .i64 f] 3 (0, 0))) :
  Calls Tryz.prog 140 #[.int .i64 (k : Int), .agg (ne (nd l k)), .pointer (some ⟨bj, 0, none⟩), .pointer (some ⟨bt, 0, none⟩), .pointer (some ⟨bf, 0, none⟩)] w fun e w' => e = .returned (.bool (zfm l j f (k : Int))) ∧ Below w.heap.size w w' := by
 have HA := Lib.hid (fun W (g : Below w.heap.size w W) => zhb s l f (k : Int) W (zad g h))
 have HK := Lib.hid (fun W (g : Below w.heap.size w W) => zzy s l (k : Int) W (zad g h))
 obtain ⟨res, hres⟩ : ∃ res, res = zfm l j f (k : Int) := ⟨_, rfl⟩
 rw [← hres]
 unfold zfm at hres
 rw [z07, show nd l ((k : Int)).toNat = nd l k from rfl] at hres
 obtain ⟨x, hx⟩ : ∃ x, x = nd l k := ⟨_, rfl⟩
 rw [← hx] at hres
 rw [← hx]
 obtain ⟨a, ha⟩ : ∃ a, a = zbp l f (k : Int) := ⟨_, rfl⟩
 rw [← ha] at hres HA
 obtain ⟨L, hL⟩ : ∃ L, L = zhu l (k : Int) := ⟨_, rfl⟩
 rw [← hL] at hres HK
 obtain ⟨m, hm⟩ : ∃ m, m = L.length := ⟨_, rfl⟩
 rw [← hm] at hres
 have HM := Lib.hid hm.symm
 obtain ⟨q, hq⟩ : ∃ q, q = x.just.toNat := ⟨_, rfl⟩
 rw [← hq] at hres
 obtain ⟨r, hr⟩ : ∃ r, r = decide (j ≤ q) := ⟨_, rfl⟩
 rw [← hr] at hres
 have t1 : decide ((j : Int) ≤ (q : Int)) = r := by rw [hr, Bool.eq_iff_iff, decide_eq_true_iff, decide_eq_true_iff]; omega
 have t2 : decide (j ≤ q) = r := hr.symm
 have HR := Lib.hid hres
 obtain ⟨W0, hW0⟩ : ∃ W0, W0 = w.alloc (.cells (ne x) 63) := ⟨_, rfl⟩
 have HB : Hid (Below w.heap.size w W0) := by rw [hW0]; exact below1
 have y1 : W0.cell? ⟨w.heap.size, 34, none⟩ = some (.int .u64 ((x.just.toNat : Nat) : Int)) := by
  rw [hW0]; exact znp (heap_alloc_last w _)
 rw [← hq] at y1
 have N0 := Lib.hid (zac HB.out M0)
 have y2 := (zam (zac HB.out M1)).1
 have y3 := (zam (zac HB.out M2)).1
 have z1 := zar N0.out (zbn _)
 have HW := Lib.hid hW0
 rw [hW0] at y1 y2 y3 z1
 clear h hres hx ha hL hm hq hr hW0 M0 M1 M2
 cases r
 ·
  have hX : Hid (res = false) := by show _ = _; rw [HR.out, Bool.and_false, Bool.and_false]
  go_enter Tryz.func140, Tryz.ntmps140
  go_wp2_with fail
  rw [← HW.out]
  go_ret
  exact ⟨by rw [hX.out]; first | done | rfl, HB.out⟩
 ·
  go_enter Tryz.func140, Tryz.ntmps140
  go_wp2_with fail
  rw [← HW.out]
  refine (HA.out W0 HB.out).mono ?_
  rintro e w1 ⟨rfl, g1⟩
  have G1 := Lib.hid (zab HB.out g1)
  have N1 := Lib.hid (zac g1 N0.out)
  replace z1 := zar N1.out (zbn _)
  clear g1 y1 y2 y3
  cases a
  ·
   have hX : Hid (res = false) := by show _ = _; rw [HR.out, Bool.false_and]
   go_wp2_with fail
   go_ret
   exact ⟨by rw [hX.out]; first | done | rfl, G1.out⟩
  ·
   go_wp2_with fail
   refine (HK.out w1 G1.out).mono ?_
   rintro e w2 ⟨v, rfl, hv, g2⟩
   have G2 := Lib.hid (zab G1.out g2)
   obtain ⟨pv, cv, rfl⟩ := zdh hv HM.out
   obtain ⟨b, hb⟩ : ∃ b, b = (m == 0) := ⟨_, rfl⟩
   have t3 : ((m : Int) == 0) = b := by rw [hb, Bool.eq_iff_iff, beq_iff_eq, beq_iff_eq]; omega
   have t4 : (m == 0) = b := hb.symm
   have hX : Hid (res = b) := by show _ = _; rw [HR.out, ← hb, Bool.true_and, Bool.and_comm]; rfl
   clear hv g2 hb z1 t1 t2
   go_wp2_with fail
   go_ret
   exact ⟨by rw [hX.out]; first | done | rfl, G2.out⟩
theorem zqz : ∀ args w, (callFunc 140 args).run Tryz.prog w = .ok (.enter 140 args) w := za7 Tryz.func140 (by kernel_rfl) (by kernel_rfl)
def ya2 (l : List Nd) (just : Nat) (fin : Int) : List Int := selI (fun k => zfm l just fin (k : Int)) l.length
theorem z3b (s : SlV) (l : List Nd) (j : Nat) (f : Int) (w : World) (hn : l.length ≤ 1000) (h : SlE Ene w (sv s) l) :
  Calls Tryz.prog 103 #[.agg (tr ⟨s⟩), .int .u64 (j : Int), .int .i64 f] w (IntsIs (ya2 l j f) w) := by
 obtain ⟨W0, hW0⟩ : ∃ W0, W0 = ((w.alloc (.cells (tr ⟨s⟩) 24)).alloc (.cells #[.int .u64 (j : Int)] 27)).alloc (.cells #[.int .i64 f] 3) := ⟨_, rfl⟩
 obtain ⟨hB, h0, h1, h2, hz⟩ := zf2 w _ _ _ _ _ _ W0 hW0
 have hl := zbk h
 have HC := Lib.hid (z3c 140 #[.pointer (some ⟨w.heap.size + 1, 0, none⟩), .pointer (some ⟨w.heap.size, 0, none⟩), .pointer (some ⟨w.heap.size + 1 + 1, 0, none⟩)] zqz (fun k => zfm l j f (k : Int)) s.p s.len s.cap l W0 (zad hB h) hl (by omega)
  (fun k W _ g => z3a (w.heap.size + 1) w.heap.size (w.heap.size + 1 + 1) s l j f k W (zad (zab hB g) h) (zac g h0) (zac g h1) (zac g h2)))
 have HL := Lib.hid hl
 obtain ⟨p, n, cp⟩ := s
 dsimp only at HC HL
 have HI : Hid (ya2 l j f = selI (fun k => zfm l j f (k : Int)) n) := by show _ = _; unfold ya2; rw [HL.out]
 rw [HI.out]
 obtain ⟨L, hL⟩ : ∃ L, L = selI (fun k => zfm l j f (k : Int)) n := ⟨_, rfl⟩
 rw [← hL]
 rw [← hL] at HC
 have HB := Lib.hid hB
 have HW := Lib.hid hW0
 rw [hW0] at h0
 obtain ⟨z0, z1, zl⟩ := zai h0
 dsimp only at z0
 rw [za0] at z0
 clear hW0 hB h0 h1 h2 hz h hl hn hL HI
 go_enter Tryz.func103, Tryz.ntmps103
 go_wp2_with fail
 rw [← HW.out]
 refine HC.out.mono ?_
 rintro e w1 ⟨v, rfl, hv, g1⟩
 have G1 := Lib.hid (zab HB.out g1)
 have HO := Lib.hid (zbi hv HB.out.size)
 clear hv g1 z0 z1 zl
 go_wp2_with fail
 go_ret
 exact ⟨_, rfl, HO.out, G1.out⟩
end Go.Proofs.YtkalofboioffiaaGreat
