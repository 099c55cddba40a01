import Derived.Test.YtkalofboioffiaaGreatT25
namespace Go.Proofs.YtkalofboioffiaaGreat
open Go.RowKit
set_option maxRecDepth 200000
set_option maxHeartbeats 64000000
theorem z14 (x : En) (g : Eg) (w : World) (h : LaidG w x g) : Calls Tryz.prog 31 #[.agg (en x), .agg (cc (zdy g))] w fun e w' => e = .returned (.int .i64 (zte g)) ∧ Below w.heap.size w w' := by
 obtain ⟨J, hJ⟩ : ∃ J, J = zdy g := ⟨_, rfl⟩
 rw [← hJ]
 obtain ⟨W0, hW0⟩ : ∃ W0, W0 = (w.alloc (.cells (en x) 38)).alloc (.cells (cc J) 36) := ⟨_, rfl⟩
 obtain ⟨hB, q0, q1, _⟩ := zc2 w _ _ _ _ W0 hW0
 have A : Hid (Gv w W0 w.heap.size x g) := ⟨q0, h.keep hB, hB⟩
 have Q : Hid (W0.heap[w.heap.size + 1]? = some (.cells (cc J) 36 (0, 0))) := q1
 have HW := Lib.hid hW0
 obtain ⟨i, hi⟩ : ∃ i, i = zh2 g := ⟨_, rfl⟩
 obtain ⟨k, hk⟩ : ∃ k, k = zq5 g := ⟨_, rfl⟩
 obtain ⟨B, hBd⟩ : ∃ B, B = ztq g := ⟨_, rfl⟩
 obtain ⟨z, hz⟩ : ∃ z, z = zte g := ⟨_, rfl⟩
 rw [← hz]
 have HFd : Hid (∀ W, LaidG W x g → Calls Tryz.prog 21 #[.agg (tr ⟨x.t.n⟩), .agg (rc g.fin.root)] W fun e w' => e = .returned (.int .i64 i) ∧ Below W.heap.size W w') := fun W hh => by rw [hi]; exact zeh x.t.n g.t g.fin.root W hh.t
 have HLe : Hid (∀ W, LaidG W x g → Calls Tryz.prog 62 #[.agg (tr ⟨x.t.n⟩), .int .u64 (J.epoch.toNat : Int), .int .i64 i] W (yec B W)) := fun W hh => by rw [hBd, hi, hJ]; exact yi6 x.t.n g.t (zdy g).epoch.toNat (zh2 g) W (zdy g).epoch.toNat_lt hh.t
 have HFr : Hid (∀ W, LaidG W x g → Calls Tryz.prog 64 #[.agg (tr ⟨x.t.n⟩), .agg (rc J.root), .int .i64 i] W fun e w' => e = .returned (.int .i64 k) ∧ Below W.heap.size W w') := fun W hh => by rw [hk, hi, hJ]; exact ylr x.t.n g.t (zdy g).root (zh2 g) W hh.t
 have HHd : Hid (∀ u W, LaidG W x g → SlE Eboo W u B → Calls Tryz.prog 63 #[.agg (tr ⟨x.t.n⟩), sv x.w, u, .int .i64 k] W fun e w' => e = .returned (.int .i64 z) ∧ Below W.heap.size W w') := fun u W hh hu => by rw [hz, hk]; rw [hBd] at hu; exact z9j x.t.n (sv x.w) u g.t g.w (ztq g) (zq5 g) W hh.t hh.w hu
 clear hW0 hB q0 q1 h hJ hi hk hBd hz
 go_enter Tryz.func31, Tryz.ntmps31
 go_upto_region 1 with fail
 rw [← HW.out]
 have zT := A.out.zT
 have zr := A.out.zr
 go_wp2_with fail
 refine (HFd.out _ A.out.l).mono ?_
 rintro e w3 ⟨rfl, g⟩
 replace A := Lib.hid (A.out.keep g)
 replace Q := Lib.hid (zac g Q.out)
 clear g zT zr HFd
 have zT := A.out.zT
 have ze := zgt Q.out
 go_wp2_with fail
 refine (HLe.out _ A.out.l).mono ?_
 rintro e w4 ⟨vb, rfl, hob, gg⟩
 replace A := Lib.hid (A.out.keep gg)
 replace Q := Lib.hid (zac gg Q.out)
 obtain ⟨pb, cb, rfl, _⟩ := zal hob
 have SB := Lib.hid hob
 clear gg hob zT ze HLe
 have zT := A.out.zT
 have zw := A.out.zw
 have zr := zb0 Q.out
 obtain ⟨nb, hnb⟩ : ∃ n, n = B.length := ⟨_, rfl⟩
 rw [← hnb] at SB ⊢
 clear hnb
 go_upto_region 3 with fail
 have L0 := fun p : Wd w4.drew => zbb zT (by decide) p
 have L1 := fun p : Wd w4.drew => zbc zw p
 have L2 := fun p : Wd w4.drew => zbb zr (by decide) p
 clear zT zw zr
 refine zaj [10, 11] (by kernel_rfl) (by kernel_rfl) (by kernel_rfl) ?_
 repeat (first | (refine zae rfl rfl _ zaf ?_; (first | go_big_quiet_step (fail) | quiet_step (fail)); refine wpQuiet_nil ?_) | refine zag rfl ?_)
 refine zan rfl rfl rfl zmw #[.agg (tr ⟨x.t.n⟩), .agg (rc J.root), .int .i64 i] rfl ?_
 refine (HFr.out _ (A.out.l.keep (zah (Below.refl _ _) 1))).mono ?_
 rintro e u ⟨rfl, g⟩
 refine ⟨_, rfl, g, ?_⟩
 simp only [Act.put, List.setIfInBounds_toArray, List.set_cons_zero, List.set_cons_succ]
 have GB : Hid (Below w4.heap.size w4 u) := zab (zah (Below.refl _ _) 1) g
 clear g
 repeat (first | (refine zae rfl rfl _ zaf ?_; (first | go_big_quiet_step (fail) | quiet_step (fail)); refine wpQuiet_nil ?_) | refine zag rfl ?_)
 refine zan rfl rfl rfl zmn #[.agg (tr ⟨x.t.n⟩), sv x.w, .slice pb nb cb, .int .i64 k] rfl ?_
 refine (HHd.out _ _ (A.out.l.keep GB.out) (zad GB.out SB.out)).mono ?_
 rintro e u ⟨rfl, g⟩
 refine ⟨_, rfl, g, ?_⟩
 simp only [Act.put, List.setIfInBounds_toArray, List.set_cons_zero, List.set_cons_succ]
 replace GB : Hid (Below w4.heap.size w4 u) := zab GB.out g
 clear g
 repeat (first | (refine zae rfl rfl _ zaf ?_; (first | go_big_quiet_step (fail) | quiet_step (fail)); refine wpQuiet_nil ?_) | refine zag rfl ?_)
 refine za3 ?_
 clear L0 L1 L2
 replace A := Lib.hid (A.out.keep GB.out)
 clear GB
 go_wp2_with fail
 go_ret
 exact ⟨rfl, A.out.g⟩
theorem zka : ∀ args w, (callFunc 31 args).run Tryz.prog w = .ok (.enter 31 args) w := za7 Tryz.func31 (by kernel_rfl) (by kernel_rfl)
theorem z23 {l : List Nd} {k : Nat} (h : k < l.length) : (l.take (k + 1)).map Nd.root = (l.take k).map Nd.root ++ [(nd l k).root] := by
 rw [List.take_succ_eq_append_getElem h, List.map_append]
 unfold nd
 simp [h]
def zfd (l : List Nd) : List Rt := l.map Nd.root
def zd1 (l : List Lt) : List Rt := (l.filter fun x => x.has).map Lt.root
def zg9 (l : List Lk) : List Rt := l.flatMap fun k => [k.s.root, k.t.root]
def zsh (g : Eg) : List Rt := zd1 g.v.l ++ zg9 g.k ++ g.j.map Ck.root
def zii (g : Eg) : Bool := (decide (g.now.toNat ≤ 1099511627776) && mayA g.late) && decide ((dueL g.late g.now.toNat).length = 0)
def zn9 (g : Eg) : Bool := decide (∀ r, r ∈ zsh g → r ∈ zfd g.t)
def zvx (g : Eg) : Bool := decide ((zc3 g.t g.k g.bal g.j).length = g.j.length) && decide (znq g.t g.k g.bal g.j g.fin = g.fin)
def zg1 (g : Eg) : Bool := (decide (g.fin ∈ g.j) && decide (g.j.Nodup)) && zvx g
theorem zy7 (l : List Nd) (ls : List Lk) (bal : List UInt64) (js : List Ck) : (zc3 l ls bal js).length = js.length ↔ zc3 l ls bal js = js := by
 refine ⟨fun e => ?_, fun e => by rw [e]⟩
 unfold zc3 at *
 split
 ·
  rename_i ht
  rw [if_pos ht] at e
  obtain ⟨ext, h, _⟩ := zkh (cnt := cntB l bal) (ls := ls) ls.length js
  unfold zoz at *
  rw [h] at e ⊢
  rw [List.length_append] at e
  rw [List.length_eq_zero_iff.1 (by omega : ext.length = 0), List.append_nil]
 ·
  rfl
theorem zuo {l : List Nd} (h : MayT l) (r : Rt) : r ∈ zfd l ↔ inT l r = true := by
 rw [yfo h]
 unfold zfd
 rw [List.mem_map]
 constructor
 ·
  rintro ⟨a, ha, rfl⟩
  obtain ⟨i, hi, rfl⟩ := List.getElem_of_mem ha
  exact ⟨i, hi, by unfold nd; rw [List.getD_eq_getElem?_getD, List.getElem?_eq_getElem hi]; rfl⟩
 ·
  rintro ⟨i, hi, rfl⟩
  exact ⟨l[i], List.getElem_mem hi, by unfold nd; rw [List.getD_eq_getElem?_getD, List.getElem?_eq_getElem hi]; rfl⟩
theorem zrb {l : List Lt} {i : Nat} (hi : i < l.length) : lat l i = l[i] := by unfold lat; rw [List.getD_eq_getElem?_getD, List.getElem?_eq_getElem hi]; rfl
theorem zha {g : Eg} {r : Rt} : r ∈ zsh g ↔ (∃ i, i < g.v.l.length ∧ (lat g.v.l i).has = true ∧ (lat g.v.l i).root = r) ∨ (∃ x, x ∈ g.k ∧ (x.s.root = r ∨ x.t.root = r)) ∨ ∃ c, c ∈ g.j ∧ c.root = r := by
 unfold zsh zd1 zg9
 rw [List.append_assoc, List.mem_append, List.mem_append, List.mem_map, List.mem_flatMap, List.mem_map]
 refine or_congr ?_ (or_congr ?_ Iff.rfl)
 ·
  constructor
  ·
   rintro ⟨x, hx, rfl⟩
   obtain ⟨h1, h2⟩ := List.mem_filter.1 hx
   obtain ⟨i, hi, rfl⟩ := List.getElem_of_mem h1
   exact ⟨i, hi, by rw [zrb hi]; exact h2, by rw [zrb hi]⟩
  ·
   rintro ⟨i, hi, h1, rfl⟩
   rw [zrb hi] at h1 ⊢
   exact ⟨_, List.mem_filter.2 ⟨List.getElem_mem hi, h1⟩, rfl⟩
 ·
  constructor
  ·
   rintro ⟨x, hx, h⟩
   simp only [List.mem_cons, List.not_mem_nil, or_false] at h
   exact ⟨x, hx, h.imp Eq.symm Eq.symm⟩
  ·
   rintro ⟨x, hx, h⟩
   exact ⟨x, hx, by simp only [List.mem_cons, List.not_mem_nil, or_false]; exact h.imp Eq.symm Eq.symm⟩
theorem zyh {l : List Aa} {n : Nat} : (dueL l n).length = 0 ↔ ∀ a, a ∈ l → n ≤ a.slot.toNat := by
 rw [List.length_eq_zero_iff]
 unfold dueL
 rw [List.filter_eq_nil_iff]
 constructor
 ·
  intro h a ha
  have := h a ha
  unfold zq9 at this
  rw [decide_eq_true_iff] at this
  omega
 ·
  intro h a ha
  have := h a ha
  unfold zq9
  rw [decide_eq_true_iff]
  omega
theorem mayE (g : Eg) : mayG g = (((((fitB g.t g.v g.bal && decide (g.w = wtsL g.t g.v g.bal)) && mayL g.k) && zii g) && zn9 g) && zg1 g) := by
 rw [Bool.eq_iff_iff, zy4]
 unfold zii zn9 zg1 zvx
 simp only [Bool.and_eq_true, decide_eq_true_iff]
 constructor
 ·
  intro h
  refine ⟨⟨⟨⟨⟨h.fit, h.w⟩, h.k⟩, ⟨h.now, h.late⟩, zyh.2 h.slots⟩, fun r hr => ?_⟩, ⟨h.fin, h.nod⟩, (zy7 _ _ _ _).2 h.more, h.next⟩
  rw [zuo h.t]
  rcases zha.1 hr with ⟨i, hi, h1, rfl⟩ | ⟨x, hx, rfl | rfl⟩ | ⟨c, hc, rfl⟩
  ·
   exact h.inV i hi h1
  ·
   exact (h.inK x hx).1
  ·
   exact (h.inK x hx).2
  ·
   exact h.inJ c hc
 ·
  rintro ⟨⟨⟨⟨⟨h1, h2⟩, h3⟩, ⟨h4, h5⟩, h6⟩, h7⟩, ⟨h8, h9⟩, h10, h11⟩
  obtain ⟨f1, f2, f3, f4⟩ := zd5.1 h1
  have hin : ∀ r, r ∈ zsh g → inT g.t r = true := fun r hr => (zuo f1 r).1 (h7 r hr)
  exact ⟨f1, f3, f2, h5, h3, f4, h4, h2, zyh.1 h6, h8, h9, fun c hc => hin _ (zha.2 (.inr (.inr ⟨c, hc, rfl⟩))), fun i hi e => hin _ (zha.2 (.inl ⟨i, hi, e, rfl⟩)),
   fun x hx => ⟨hin _ (zha.2 (.inr (.inl ⟨x, hx, .inl rfl⟩))), hin _ (zha.2 (.inr (.inl ⟨x, hx, .inr rfl⟩)))⟩, (zy7 _ _ _ _).1 h10, h11⟩
section
open Go.RowKit
theorem yfv : (Tryz.prog.info? 34).map (fun i => (i.zero, i.size, i.bytes)) = some (some (.agg (rc zr)), 32, 32) := by kernel_rfl
theorem Krt : Known Tryz.prog Ert 130 := ⟨Tryz.underlying130, .agg (rc zr), 32, yfv, by show ((rc zr)).size = _; exact zay _, by decide⟩
section
open Go.WideShapes Go.ChangeShapes
variable {H : Type} {enc : TypeId × Value → H} {w : World} {base : Nat} {sp : Nat → Bool} {held : Bool}
end
end
@[go_sem ↓] theorem z9r (ρ : Operand → Value) (dst : Option Tmp) (x : Operand) (ty : TypeId) (pos : String) (after : Array Edge) (guard : Option (Nat × Bool)) (w : World) (hx : okA 32 (ρ x) = true) :
  (execOp ρ { dst, op := .buildSlice 130 1 #[(0, x)], type := ty, pos, after, guard }).run Tryz.prog w = .ok (.value (.slice (some ⟨w.heap.size, 0, none⟩) 1 1)) (w.alloc (.cells (ze4 (ρ x)) 34)) := by
 obtain ⟨c, hc, hn⟩ : ∃ c, ρ x = .agg c ∧ c.size = 32 := by
  unfold okA at hx
  split at hx
  ·
   rename_i c hc
   rw [Bool.and_eq_true, beq_iff_eq] at hx
   exact ⟨c, hc, hx.1⟩
  ·
   cases hx
 have hp : (1 * 32 > 2 ^ 24) = False := by simp
 have h0 : (1 * 32 = 0) = False := by simp
 unfold execOp
 simp only [Instr.buildSlice, Sem.run_bind, run_underlying Tryz.underlying130, Result.andThen_ok, Tryz.sizeOf34, hp, h0, if_false, zj0, Value.cells]
 simp only [List.map_toArray, List.map_cons, List.map_nil, hc, Instr.fill, Value.cells, hn, Nat.zero_mul]
 simp [ze4]
 rw [zgx _ c (by simp [hn])]
 rfl
theorem zxj (w : World) (x : Rt) (b : Nat) (hb : b = w.heap.size) : SlE Ert (w.alloc (.cells (rc x) 34)) (.slice (some ⟨b, 0, none⟩) 1 1) [x] :=
 zdu w _ 1 _ _ b rfl hb (by simp [zaq, Ert])
def rtA (l : List Rt) (i : Nat) : Rt := l.getD i zr
theorem zuq {l : List Rt} {i : Nat} (h : i < l.length) : rtA l i = l[i] := by unfold rtA; simp [h]
theorem z7v {w : World} {p : Option Addr} {n cp : Nat} {l : List Rt} (h : SlE Ert w (.slice p n cp) l) (h0 : 0 < l.length) : ∃ b o, p = some ⟨b, o, none⟩ ∧ b < w.heap.size ∧ w.rangeAt b o (zaq Ert l) := by
 obtain ⟨b, o, c, e, _, q, x⟩ := zcz h h0
 injection e with e1 e2 e3
 exact ⟨b, o, e1, q, x⟩
theorem yd5 {w : World} {b off : Nat} {l : List Rt} (h : w.rangeAt b off (zaq Ert l)) {i : Nat} (hi : i < l.length) : ldA w (.pointer (some ⟨b, off + i * 32, none⟩)) 32 = some (rc (rtA l i)) := by
 have := zp0 h hi
 rw [zuq hi]
 exact this
theorem ygt {l : List Rt} {x : Rt} {j : Nat} (hj : j < l.length) (h : x ∉ l.take j) (hx : ¬ x = rtA l j) : x ∉ l.take (j + 1) := by
 rw [List.take_succ_eq_append_getElem hj, List.mem_append, List.mem_singleton, not_or]
 rw [zuq hj] at hx
 exact ⟨h, hx⟩
theorem yfr (p : Option Addr) (n cp : Nat) (l : List Rt) (x : Rt) (w : World) (h : SlE Ert w (.slice p n cp) l) (hl : l.length = n) (hn : n ≤ 9000) :
  Calls Tryz.prog 127 #[.slice p n cp, .agg (rc x)] w fun e w' => ∃ r : Int, e = .returned (.int .i64 r) ∧ decide (0 ≤ r) = decide (x ∈ l) ∧ Below w.heap.size w w' := by
 have HS := Lib.hid h
 have HL := Lib.hid hl
 have HN := Lib.hid hn
 obtain ⟨W0, hW0⟩ : ∃ W0, W0 = w.alloc (.cells (rc x) 34) := ⟨_, rfl⟩
 have HB : Hid (Below w.heap.size w W0) := by rw [hW0]; exact below1
 have M0 : Hid (ldA W0 (.pointer (some ⟨w.heap.size, 0, none⟩)) 32 = some (rc x)) := by rw [hW0]; exact zar (heap_alloc_last w _) (zay x)
 have HW := Lib.hid hW0
 clear h hl hn hW0
 go_enter Tryz.func127, Tryz.ntmps127
 go_upto_region 1 with fail
 rw [← HW.out]
 go_wp2_with fail
 go_loopw [8] (fun k wr => ∃ j : Nat, j ≤ n ∧ k = .int .i64 (j : Int) ∧ x ∉ l.take j ∧ Below W0.heap.size W0 wr) (fun k _ => n - (intOf k).toNat)
 case atStart => exact ⟨0, Nat.zero_le _, rfl, by simp, Below.refl _ _⟩
 case round =>
  obtain ⟨j, hj, rfl, hx, hb⟩ := hrel
  have HX := Lib.hid hx
  have HG := Lib.hid (zab HB.out hb)
  have y0 := keep hb M0.out
  have HB2 := Lib.hid hb
  clear hx hb
  by_cases hlt : j < n
  ·
   obtain ⟨b1, o1, rfl, q1, x1⟩ := z7v HS.out (by have := HL.out; omega)
   have y1 : ldA wr (.pointer (some ⟨b1, o1 + j * 32, none⟩)) 32 = some (rc (rtA l j)) := keep HG.out (yd5 x1 (by have := HL.out; omega))
   have i0 : (0 : Int) ≤ (j : Int) := by omega
   have i1 : (j : Int) < (n : Int) := by omega
   have u1 : (j : Int) + 1 < 10000 := by have := HN.out; omega
   have HLT := Lib.hid hlt
   obtain ⟨z, hz⟩ : ∃ z, z = rtA l j := ⟨_, rfl⟩
   rw [← hz] at y1
   have HZ := Lib.hid hz
   clear hlt q1 x1 hz
   by_cases he : x = z
   ·
    have t1 : eqB x z = true := (zq2 _ _).2 he
    have hX : Hid (decide (0 ≤ (j : Int)) = decide (x ∈ l)) := by
     show _ = _
     rw [decide_eq_true (by omega)]
     refine (decide_eq_true ?_).symm
     rw [he, HZ.out, zuq (by have := HL.out; have := HLT.out; omega)]
     exact List.getElem_mem _
    clear he
    go_wp2_with fail
    go_quiet (fail)
    go_wp2_with fail
    go_ret
    exact ⟨_, rfl, hX.out, zah HG.out _⟩
   ·
    have t1 : eqB x z = false := by rw [Bool.eq_false_iff]; exact fun e => he ((zq2 _ _).1 e)
    have HE := Lib.hid (ygt (by have := HL.out; have := HLT.out; omega) HX.out (by rw [← HZ.out]; exact he))
    clear he
    go_wp2_with fail
    go_quiet (fail)
    go_wp2_with fail
    go_roundw
    case rel => exact ⟨j + 1, HLT.out, by go_num, HE.out, zah HB2.out _⟩
    case measure => simp [intOf]; have := HLT.out; omega
  ·
   obtain rfl : j = n := by omega
   have hX : Hid (decide ((0 : Int) ≤ -1) = decide (x ∈ l)) := by
    show _ = _
    rw [decide_eq_false (by omega)]
    refine (decide_eq_false ?_).symm
    have := HX.out
    rwa [List.take_of_length_le (by have := HL.out; omega)] at this
   clear hlt
   go_wp2_with fail
   go_ret
   exact ⟨_, rfl, hX.out, HG.out⟩
theorem z0l (v : Value) (l : List Rt) (x : Rt) (w : World) (h : SlE Ert w v l) (hn : l.length ≤ 9000) :
  Calls Tryz.prog 92 #[v, .agg (rc x)] w fun e w' => e = .returned (.bool (decide (x ∈ l))) ∧ Below w.heap.size w w' := by
 obtain ⟨p, cp, rfl, _⟩ := zal h
 obtain ⟨n, hl⟩ : ∃ n, l.length = n := ⟨_, rfl⟩
 rw [hl] at h hn ⊢
 have HC := Lib.hid (fun W (g : Below w.heap.size w W) => yfr p n cp l x W (zad g h) hl hn)
 obtain ⟨res, hres⟩ : ∃ res, res = decide (x ∈ l) := ⟨_, rfl⟩
 rw [← hres]
 rw [← hres] at HC
 obtain ⟨W0, hW0⟩ : ∃ W0, W0 = w.alloc (.cells (rc x) 34) := ⟨_, rfl⟩
 have HB : Hid (Below w.heap.size w W0) := by rw [hW0]; exact below1
 have y0 : ldA W0 (.pointer (some ⟨w.heap.size, 0, none⟩)) 32 = some (rc x) := by rw [hW0]; exact zar (heap_alloc_last w _) (zay x)
 have HW := Lib.hid hW0
 clear h hl hn hres hW0
 go_enter Tryz.func92, Tryz.ntmps92
 go_upto_region 1 with fail
 rw [← HW.out]
 go_wp2_with fail
 refine (HC.out _ HB.out).mono ?_
 rintro e w1 ⟨r, rfl, hr, g⟩
 have G := Lib.hid (zab HB.out g)
 have HR := Lib.hid hr
 obtain ⟨q, hq⟩ : ∃ q, q = decide (0 ≤ r) := ⟨_, rfl⟩
 have t1 : decide (0 ≤ r) = q := hq.symm
 have HQ : Hid (q = res) := hq.trans hr
 clear g hr hq HR y0
 go_wp2_with fail
 go_ret
 exact ⟨by rw [← HQ.out]; first | done | rfl, G.out⟩
theorem zxi {l : List Nd} {k : Nat} (h : k < l.length) : zfd (l.take (k + 1)) = zfd (l.take k) ++ [(nd l k).root] := z23 h
theorem zqk (l : List Nd) : (zfd l).length = l.length := List.length_map ..
def yee (L : List Rt) (w : World) (e : Ending) (w' : World) : Prop := ∃ v, e = .returned v ∧ OwnE Ert w' w.heap.size v L ∧ Below w.heap.size w w'
theorem zry (p : Option Addr) (n cp : Nat) (l : List Nd) (w : World) (h : SlE Ene w (.slice p n cp) l) (hl : l.length = n) (hn : n ≤ 1000) :
  Calls Tryz.prog 90 #[.agg (tr ⟨⟨p, n, cp⟩⟩)] w (yee (zfd l) w) := by
 have HS := Lib.hid h
 have HL := Lib.hid hl
 have HN := Lib.hid hn
 obtain ⟨W0, hW0⟩ : ∃ W0, W0 = w.alloc (.cells (tr ⟨⟨p, n, cp⟩⟩) 24) := ⟨_, rfl⟩
 have HB : Hid (Below w.heap.size w W0) := by rw [hW0]; exact below1
 have M0 : Hid (W0.heap[w.heap.size]? = some (.cells (tr ⟨⟨p, n, cp⟩⟩) 24 (0, 0))) := by rw [hW0]; exact heap_alloc_last w _
 have HW := Lib.hid hW0
 clear h hl hn hW0
 go_enter Tryz.func90, Tryz.ntmps90
 go_upto_region 1 with fail
 rw [← HW.out]
 have y0 := (zai M0.out).1
 dsimp only at y0
 rw [za0] at y0
 go_wp2_with fail
 clear y0
 go_loopw [3, 9] (fun kv i wr => ∃ k : Nat, k ≤ n ∧ i = .int .i64 (k : Int) ∧ OwnE Ert wr W0.heap.size kv (zfd (l.take k)) ∧ Below W0.heap.size W0 wr) (fun _ i _ => n - (intOf i).toNat)
 case atStart => exact ⟨0, Nat.zero_le _, rfl, za8 _ _ _, Below.refl _ _⟩
 case round =>
  obtain ⟨k, hk, rfl, ho, hb⟩ := hrel
  have HO := Lib.hid ho
  have HG := Lib.hid hb
  clear ho hb
  by_cases hlt : k < n
  ·
   have HK := Lib.hid hlt
   have i0 : (0 : Int) ≤ (k : Int) := by omega
   have i1 : (k : Int) < (n : Int) := by omega
   have u1 : (k : Int) + 1 < 10000 := by have := HN.out; omega
   obtain ⟨b1, o1, rfl, q1, x1⟩ := zcj (zad (zab HB.out HG.out) HS.out) (by rw [HL.out]; omega)
   have y1 := zjd x1 (i := k) (by rw [HL.out]; exact hlt)
   have HTk := Lib.hid (zxi (l := l) (k := k) (by rw [HL.out]; exact hlt))
   have HLk : Hid ((zfd (l.take k)).length ≤ 1000) := by show _ ≤ _; rw [zqk, List.length_take]; have := HL.out; have := HN.out; omega
   obtain ⟨m, hm⟩ : ∃ m, m = nd l k := ⟨_, rfl⟩
   rw [← hm] at y1 HTk
   clear hlt q1 x1 hm
   go_upto_region 5 with fail
   obtain ⟨V, hV⟩ : ∃ V, V = wr.alloc (.cells (ne m) 63) := ⟨_, rfl⟩
   rw [← hV]
   have g5 : Below wr.heap.size wr V := by rw [hV]; exact below1
   have z1 := zid (show V.heap[wr.heap.size]? = some (.cells (ne m) 63 (0, 0)) from by rw [hV]; exact heap_alloc_last wr _)
   have HO1 := Lib.hid (za5 g5 HO.out)
   have HG1 : Hid (Below W0.heap.size W0 V) := zab HG.out g5
   clear hV g5 y1
   go_wp2_with (at_builtin; refine za1 Krt _ rfl _ (.tmp 16) rfl W0.heap.size _ (zfd (l.take k)) rfl (zaw HO1.out _) _ [m.root] rfl (zxj _ _ _ rfl) (by have := HLk.out; simp; omega) (by have := HG1.out.size; simp; omega) ?_; intro v2 w2 ho2 hg2; have HO2 : Hid (OwnE Ert w2 W0.heap.size v2 (zfd (l.take (k + 1)))) := (by show OwnE _ _ _ _ _; rw [HTk.out]; exact ho2); have HB2 : Hid (Below W0.heap.size W0 w2) := HG1.out.trans ((Gr.alloc hg2).own HO1.out HG1.out.size); clear ho2 hg2)
   clear z1
   go_roundw
   case rel => exact ⟨k + 1, HK.out, by go_num, HO2.out, HB2.out⟩
   case measure => simp [intOf]; have := HK.out; omega
  ·
   obtain rfl : k = n := by omega
   clear hlt
   have HO2 : OwnE Ert wr W0.heap.size u3 (zfd l) := by
    have := HO.out
    rwa [← HL.out, List.take_length] at this
   have HR := Lib.hid HO2
   clear HO2
   go_wp2_with fail
   go_ret
   exact ⟨_, rfl, zbi HR.out HB.out.size, zab HB.out HG.out⟩
theorem zw5 (s : SlV) (l : List Nd) (w : World) (h : SlE Ene w (sv s) l) (hn : l.length ≤ 1000) :
  Calls Tryz.prog 90 #[.agg (tr ⟨s⟩)] w (yee (zfd l) w) := by
 have hs := zbk h
 obtain ⟨p, n, cp⟩ := s
 dsimp only at hs
 subst hs
 exact zry p _ cp l w h rfl hn
open Go.RowKit
section
variable {α : Type} {E : Lie α} {W : World} {T : Nat} {s : SlV} {l : List α}
end
section
variable {α : Type} {E : Lie α} {W : World} {T : Nat} {s : SlV} {l : List α} {x : En}
end
section
variable {W : World} {T : Nat} {s : SlV} {x : En}
end
section
variable {w W W' : World} {T : Nat} {x : En} {g : Eg}
end
section
variable {w W W' : World} {T R U : Nat} {x x0 : En} {g g0 : Eg} {s : SlV}
theorem yju {α : Type} {E : Lie α} {v : Value} {l : List α} (h : SlE E W v l) : ∃ p c, v = .slice p l.length c := by
 obtain ⟨p, c, e, _⟩ := zal h
 exact ⟨p, c, e⟩
end
def beyA (x : Aa) : Bool := decide (1099511627776 < x.slot.toNat)
theorem z1b (x : Aa) (w : World) : Calls Tryz.prog 126 #[.agg (aa x)] w fun e w' => e = .returned (.bool (beyA x)) ∧ Below w.heap.size w w' := by
 obtain ⟨W, hW⟩ : ∃ W, W = w.alloc (.cells (aa x) 113) := ⟨_, rfl⟩
 have hx : W.heap[w.heap.size]? = some (.cells (aa x) 113 (0, 0)) := by rw [hW]; exact heap_alloc_last w _
 have HB : Hid (Below w.heap.size w W) := by rw [hW]; exact below1
 have z := zl7 hx
 unfold num at z
 obtain ⟨b, hb⟩ : ∃ b, b = beyA x := ⟨_, rfl⟩
 rw [← hb]
 obtain ⟨y, hy⟩ : ∃ y, y = x.slot.toNat := ⟨_, rfl⟩
 rw [← hy] at z
 have t0 : decide ((1099511627776 : Int) < (y : Int)) = b := by rw [hb]; unfold beyA; rw [← hy]; exact decide_eq_decide.2 (by omega)
 have t1 : decide (1099511627776 < y) = b := by rw [hb]; unfold beyA; rw [← hy]
 have HW := Lib.hid hW
 clear hx hW hb hy
 go_enter Tryz.func126, Tryz.ntmps126
 go_upto_region 1 with fail
 rw [← HW.out]
 go_wp2_with fail
 go_ret
 exact ⟨by first | rfl | simp [t1], HB.out⟩
theorem zj8 : ∀ args w, (callFunc 126 args).run Tryz.prog w = .ok (.enter 126 args) w := za7 Tryz.func126 (by kernel_rfl) (by kernel_rfl)
structure ylk (pr : Nat → Bool) (n : Nat) (i : Int) : Prop where
 none : i < 0 → ∀ j, j < n → pr j = false
 some : 0 ≤ i → ∃ j, j < n ∧ pr j = true
theorem yfq (g : Nat) (lb : Array Value) (eg : ∀ args w, (callFunc g args).run Tryz.prog w = .ok (.enter g args) w) (pr : Nat → Bool) (p : Option Addr) (n cp : Nat) (l : List Aa) (w : World) (h : SlE Eaa w (.slice p n cp) l) (hl : l.length = n) (hn : n ≤ 1000)
  (hp : ∀ (k : Nat) (W : World), k < n → Below w.heap.size w W → Calls Tryz.prog g (#[.agg (aa (att l k))] ++ lb) W fun e W' => e = .returned (.bool (pr k)) ∧ Below W.heap.size W W') :
  Calls Tryz.prog 153 #[.slice p n cp, .func (.func g) #[] lb] w fun e w' => (∃ i, e = .returned (.int .i64 i) ∧ ylk pr n i) ∧ Below w.heap.size w w' := by
 have HS := Lib.hid h
 have HL := Lib.hid hl
 have HN := Lib.hid hn
 have HP := Lib.hid hp
 clear h hl hn hp
 go_enter Tryz.func153, Tryz.ntmps153
 go_wp2_with fail
 go_loopw [5, 8] (fun _ k wr => ∃ j : Nat, j ≤ n ∧ k = .int .i64 (j : Int) ∧ (∀ x, x < j → pr x = false) ∧ Below w.heap.size w wr) (fun _ k _ => n - (intOf k).toNat)
 case atStart => exact ⟨0, Nat.zero_le _, rfl, fun x hx => absurd hx (Nat.not_lt_zero _), Below.refl _ _⟩
 case round =>
  obtain ⟨j, hj, rfl, hx, hb⟩ := hrel
  have HX := Lib.hid hx
  have HB := Lib.hid hb
  clear hx hb
  by_cases hlt : j < n
  ·
   obtain ⟨b1, o1, rfl, q1, x1⟩ := zlp HS.out (by have := HL.out; omega)
   have y1 := z30 (zbu HB.out x1) (i := j) (by have := HL.out; omega)
   have i0 : (0 : Int) ≤ (j : Int) := by omega
   have i1 : (j : Int) < (n : Int) := by omega
   have u1 : (j : Int) + 1 < 10000 := by have := HN.out; omega
   have HLT := Lib.hid hlt
   have HQ := Lib.hid (HP.out j wr hlt HB.out)
   obtain ⟨x, hx⟩ : ∃ x, x = att l j := ⟨_, rfl⟩
   rw [← hx] at y1 HQ
   obtain ⟨r, hr⟩ : ∃ r, r = pr j := ⟨_, rfl⟩
   rw [← hr] at HQ
   have HR := Lib.hid hr.symm
   clear hlt q1 x1 hx hr
   go_wp2_with fail
   refine HQ.out.mono ?_
   rintro e w2 ⟨rfl, g2⟩
   have G2 := Lib.hid (zab HB.out g2)
   clear g2 y1
   cases r
   ·
    go_wp2_with fail
    go_roundw
    case rel => exact ⟨j + 1, HLT.out, by go_num, (fun x hx => by
     rcases Nat.lt_succ_iff_lt_or_eq.1 hx with h | rfl
     ·
      exact HX.out x h
     ·
      exact HR.out), G2.out⟩
    case measure => simp [intOf]; have := HLT.out; omega
   ·
    go_wp2_with fail
    go_ret
    exact ⟨⟨_, rfl, ⟨fun h => absurd h (by omega), fun _ => ⟨j, HLT.out, HR.out⟩⟩⟩, G2.out⟩
  ·
   obtain rfl : j = n := by omega
   clear hlt
   go_wp2_with fail
   go_ret
   exact ⟨⟨_, rfl, ⟨fun _ => HX.out, fun h => absurd h (by omega)⟩⟩, HB.out⟩
def zhx (l : List Aa) : Bool := l.any beyA
theorem z3u {l : List Aa} (h : ∀ j, j < l.length → beyA (att l j) = false) : zhx l = false := by
 unfold zhx
 rw [List.any_eq_false]
 intro x hx
 obtain ⟨i, hi, rfl⟩ := List.getElem_of_mem hx
 have := h i hi
 rw [zim hi] at this
 simp [this]
theorem zz8 {l : List Aa} {j : Nat} (hj : j < l.length) (h : beyA (att l j) = true) : zhx l = true := by
 unfold zhx
 rw [List.any_eq_true]
 rw [zim hj] at h
 exact ⟨_, List.getElem_mem hj, h⟩
theorem zy2 (l : List Aa) : mayA l = (decide (l.length ≤ 6) && !zhx l) := by
 rw [Bool.eq_iff_iff, ybb, Bool.and_eq_true, decide_eq_true_iff, Bool.not_eq_true', zhx, List.any_eq_false]
 refine and_congr Iff.rfl (forall_congr' fun x => forall_congr' fun _ => ?_)
 unfold beyA
 rw [decide_eq_true_iff]
 omega
theorem zvw (p : Option Addr) (n cp : Nat) (l : List Aa) (w : World) (h : SlE Eaa w (.slice p n cp) l) (hl : l.length = n) (hn : n ≤ 1000) :
  Calls Tryz.prog 125 #[.slice p n cp, .func (.func 126) #[] #[]] w fun e w' => e = .returned (.bool (zhx l)) ∧ Below w.heap.size w w' := by
 have HI := Lib.hid (yfq 126 #[] zj8 (fun k => beyA (att l k)) p n cp l w h hl hn (fun k W _ _ => z1b _ W))
 have HL := Lib.hid hl
 clear h hl hn
 go_enter Tryz.func125, Tryz.ntmps125
 go_wp2_with fail
 refine HI.out.mono ?_
 rintro e w1 ⟨⟨i, rfl, hi⟩, g⟩
 by_cases h0 : 0 ≤ i
 ·
  have t0 : decide ((0 : Int) ≤ i) = true := decide_eq_true h0
  have HF : Hid (zhx l = true) := by
   obtain ⟨j, hj, e⟩ := hi.some h0
   exact zz8 (by rw [HL.out]; exact hj) e
  have HG := Lib.hid g
  clear hi g
  go_wp2_with fail
  go_ret
  exact ⟨by rw [HF.out]; first | done | rfl, HG.out⟩
 ·
  have t0 : decide ((0 : Int) ≤ i) = false := decide_eq_false h0
  have HF : Hid (zhx l = false) := z3u fun j hj => hi.none (by omega) j (by rw [← HL.out]; exact hj)
  have HG := Lib.hid g
  clear hi g h0
  go_wp2_with fail
  go_ret
  exact ⟨by rw [HF.out]; first | done | rfl, HG.out⟩
theorem z5r (p : Option Addr) (n cp : Nat) (l : List Aa) (w : World) (h : SlE Eaa w (.slice p n cp) l) (hl : l.length = n) :
  Calls Tryz.prog 89 #[.slice p n cp] w fun e w' => e = .returned (.bool (mayA l)) ∧ Below w.heap.size w w' := by
 by_cases h6 : n ≤ 6
 ·
  have HC := Lib.hid (zvw p n cp l w h hl (by omega))
  have t0 : decide ((n : Int) ≤ 6) = true := decide_eq_true (by omega)
  have t1 : decide (n ≤ 6) = true := decide_eq_true h6
  rw [zy2, hl, t1, Bool.true_and]
  obtain ⟨r, hr⟩ : ∃ r, r = zhx l := ⟨_, rfl⟩
  rw [← hr] at HC ⊢
  clear h hl hr h6
  go_enter Tryz.func89, Tryz.ntmps89
  go_wp2_with fail
  refine HC.out.mono ?_
  rintro e w1 ⟨rfl, g⟩
  go_wp2_with fail
  go_ret
  exact ⟨rfl, g⟩
 ·
  have t0 : decide ((n : Int) ≤ 6) = false := decide_eq_false (by omega)
  have t1 : decide (n ≤ 6) = false := decide_eq_false h6
  rw [zy2, hl, t1, Bool.false_and]
  clear h hl h6
  go_enter Tryz.func89, Tryz.ntmps89
  go_wp2_with fail
  go_ret
  exact ⟨rfl, Below.refl _ _⟩
theorem yf1 (v : Value) (l : List Aa) (w : World) (h : SlE Eaa w v l) :
  Calls Tryz.prog 89 #[v] w fun e w' => e = .returned (.bool (mayA l)) ∧ Below w.heap.size w w' := by
 have k := h
 obtain ⟨p, cp, rfl, _⟩ := zal h
 exact z5r p _ cp l w k rfl
def zk8 (l : List Aa) (now j : Nat) : List Aa := dueL (l.take j) now
def zgm (l : List Aa) (now j : Nat) : List Aa := zig (l.take j) now
theorem zzv {l : List Aa} {j : Nat} (h : j < l.length) : l.take (j + 1) = l.take j ++ [att l j] := by rw [List.take_succ_eq_append_getElem h, zim h]
theorem yj1 {l : List Aa} {now j : Nat} (h : j < l.length) (hd : slA l j < now) : zk8 l now (j + 1) = zk8 l now j ++ [att l j] ∧ zgm l now (j + 1) = zgm l now j := by
 unfold zk8 zgm
 rw [zzv h]
 refine ⟨yaf hd, ?_⟩
 rw [zzm]
 unfold slA at hd
 simp [zig, zq9, hd]
theorem ymk {l : List Aa} {now j : Nat} (h : j < l.length) (hd : ¬ slA l j < now) : zk8 l now (j + 1) = zk8 l now j ∧ zgm l now (j + 1) = zgm l now j ++ [att l j] := by
 unfold zk8 zgm
 rw [zzv h]
 refine ⟨?_, z7t hd⟩
 rw [z4q]
 unfold slA at hd
 simp [dueL, zq9, hd]
theorem yj0 {l : List Aa} {now j : Nat} : (zk8 l now j).length ≤ j ∧ (zgm l now j).length ≤ j := by
 have h1 := yig (l := l.take j) (now := now)
 have h2 := ygq (l := l.take j) (now := now)
 have h3 : (l.take j).length ≤ j := by rw [List.length_take]; omega
 exact ⟨Nat.le_trans h1 h3, Nat.le_trans h2 h3⟩
theorem yjz {l : List Aa} {now j : Nat} (h : l.length = j) : zk8 l now j = dueL l now ∧ zgm l now j = zig l now := by
 subst h
 unfold zk8 zgm
 rw [List.take_length]
 exact ⟨rfl, rfl⟩
theorem yg0 (p q : Nat) : SepE (.slice none 0 p) (.slice none 0 q) := fun b hb => by cases hb
theorem z1c (g : Nat) (lb : Array Value) (eg : ∀ args w, (callFunc g args).run Tryz.prog w = .ok (.enter g args) w) (now : Nat) (p : Option Addr) (n cp : Nat) (l : List Aa) (w : World) (h : SlE Eaa w (.slice p n cp) l) (hl : l.length = n) (hn : n ≤ 1000)
  (hp : ∀ (k : Nat) (W : World), k < n → Below w.heap.size w W → Calls Tryz.prog g (#[.agg (aa (att l k))] ++ lb) W fun e W' => e = .returned (.bool (decide (slA l k < now))) ∧ Below W.heap.size W W') :
  Calls Tryz.prog 123 #[.slice p n cp, .func (.func g) #[] lb] w (zvi (dueL l now) (zig l now) w) := by
 have HS := Lib.hid h
 have HL := Lib.hid hl
 have HN := Lib.hid hn
 have HP := Lib.hid hp
 clear h hl hn hp
 go_enter Tryz.func123, Tryz.ntmps123
 go_wp2_with fail
 go_loopw [6, 7, 12] (fun u v i wr => ∃ j : Nat, j ≤ n ∧ i = .int .i64 (j : Int) ∧ OwnE Eaa wr w.heap.size u (zk8 l now j) ∧ OwnE Eaa wr w.heap.size v (zgm l now j) ∧ SepE u v ∧ Below w.heap.size w wr) (fun _ _ i _ => n - (intOf i).toNat)
 case atStart => exact ⟨0, Nat.zero_le _, rfl, by rw [show zk8 l now 0 = [] from rfl]; exact za8 _ _ _, by rw [show zgm l now 0 = [] from rfl]; exact za8 _ _ _, yg0 _ _, Below.refl _ _⟩
 case round =>
  obtain ⟨j, hj, rfl, ho1, ho2, hs, hb⟩ := hrel
  have HO1 := Lib.hid ho1
  have HO2 := Lib.hid ho2
  have HSp := Lib.hid hs
  have HB := Lib.hid hb
  have HLe := Lib.hid (yj0 (l := l) (now := now) (j := j))
  obtain ⟨pu, cu, rfl⟩ := zb4 ho1
  obtain ⟨pv, cv, rfl⟩ := zb4 ho2
  obtain ⟨m1, hm1⟩ : ∃ m1, m1 = (zk8 l now j).length := ⟨_, rfl⟩
  obtain ⟨m2, hm2⟩ : ∃ m2, m2 = (zgm l now j).length := ⟨_, rfl⟩
  rw [← hm1] at HO1 HSp HLe
  rw [← hm2] at HO2 HSp HLe
  rw [← hm1, ← hm2]
  have HM1 := Lib.hid hm1
  have HM2 := Lib.hid hm2
  clear ho1 ho2 hs hb hm1 hm2
  by_cases hlt : j < n
  ·
   have i0 : (0 : Int) ≤ (j : Int) := by omega
   have i1 : (j : Int) < (n : Int) := by omega
   have u1 : (j : Int) + 1 < 10000 := by have := HN.out; omega
   obtain ⟨b1, o1, rfl, q1, x1⟩ := zlp (zad HB.out HS.out) (by have := HL.out; omega)
   have y2 := z30 x1 (i := j) (by have := HL.out; omega)
   have HLT := Lib.hid hlt
   have HU1 := Lib.hid (fun h => yj1 (l := l) (now := now) (j := j) (by have := HL.out; omega) h)
   have HU2 := Lib.hid (fun h => ymk (l := l) (now := now) (j := j) (by have := HL.out; omega) h)
   obtain ⟨x, hx⟩ : ∃ x, x = att l j := ⟨_, rfl⟩
   rw [← hx] at y2 HU1 HU2
   obtain ⟨W1, hW1⟩ : ∃ W1, W1 = wr.alloc (.cells (aa x) 113) := ⟨_, rfl⟩
   have hx1 : W1.heap[wr.heap.size]? = some (.cells (aa x) 113 (0, 0)) := by rw [hW1]; exact heap_alloc_last wr _
   have B1 : Hid (Below w.heap.size w W1) := by rw [hW1]; exact zab HB.out below1
   have O1 := Lib.hid (zaw HO1.out (.cells (aa x) 113))
   have O2 := Lib.hid (zaw HO2.out (.cells (aa x) 113))
   rw [← hW1] at O1 O2
   have HX1 := Lib.hid hx1
   have z1 := zar hx1 (zl8 x)
   have HQ := Lib.hid (HP.out j W1 hlt B1.out)
   rw [← hx] at HQ
   have HW := Lib.hid hW1
   clear x1 hlt hx q1 hW1 hx1
   go_upto_region 5 with fail
   rw [← HW.out]
   go_wp2_with fail
   refine HQ.out.mono ?_
   rintro e w2 ⟨rfl, g2⟩
   have G2 := Lib.hid (zab B1.out g2)
   have P1 := Lib.hid (za5 g2 O1.out)
   have P2 := Lib.hid (za5 g2 O2.out)
   have z2 := zar (zac g2 HX1.out) (zl8 x)
   have Z : Hid (w.heap.size ≤ w2.heap.size) := G2.out.size
   clear g2 y2 z1
   by_cases hd : slA l j < now
   ·
    rw [decide_eq_true hd]
    obtain ⟨e1, e2⟩ := HU1.out hd
    have E1 := Lib.hid e1
    have E2 := Lib.hid e2
    clear hd e1 e2
    go_wp2_with (at_builtin; go_loud (refine za1 Kaa _ rfl (.tmp 19) (.tmp 21) rfl w.heap.size _ _ rfl (zaw P1.out _) _ [x] rfl (z3o _ x _ (by simp)) (by rw [← HM1.out]; have := HLe.out.1; have := HLT.out; have := HN.out; simp; omega) (by have := Z.out; simp; omega) ?_; intro v4 w4 ho4 hg4; have O4 := Lib.hid ho4; have G4 := Lib.hid (Gr.alloc hg4); clear ho4 hg4))
    go_roundw
    case rel => exact ⟨j + 1, HLT.out, by go_num, by rw [E1.out]; exact O4.out, by rw [E2.out]; exact z60 HSp.out P2.out G4.out, z7w HSp.out P2.out G4.out, G2.out.trans (G4.out.own P1.out Z.out)⟩
    case measure => simp [intOf]; have := HLT.out; omega
   ·
    rw [decide_eq_false hd]
    obtain ⟨e1, e2⟩ := HU2.out hd
    have E1 := Lib.hid e1
    have E2 := Lib.hid e2
    clear hd e1 e2
    go_wp2_with (at_builtin; go_loud (refine za1 Kaa _ rfl (.tmp 23) (.tmp 25) rfl w.heap.size _ _ rfl (zaw P2.out _) _ [x] rfl (z3o _ x _ (by simp)) (by rw [← HM2.out]; have := HLe.out.2; have := HLT.out; have := HN.out; simp; omega) (by have := Z.out; simp; omega) ?_; intro v4 w4 ho4 hg4; have O4 := Lib.hid ho4; have G4 := Lib.hid (Gr.alloc hg4); clear ho4 hg4))
    go_roundw
    case rel => exact ⟨j + 1, HLT.out, by go_num, by rw [E1.out]; exact z1t HSp.out P1.out G4.out, by rw [E2.out]; exact O4.out, z2o HSp.out P1.out G4.out, G2.out.trans (G4.out.own P2.out Z.out)⟩
    case measure => simp [intOf]; have := HLT.out; omega
  ·
   obtain rfl : j = n := by omega
   obtain ⟨e1, e2⟩ := yjz (now := now) HL.out
   rw [e1] at HO1
   rw [e2] at HO2
   clear hlt e1 e2
   go_wp2_with fail
   go_ret2
   exact ⟨_, _, rfl, za2 HO1.out, za2 HO2.out, HB.out⟩
theorem z5t (x : Aa) (now a : Nat) (w : World) (hz : w.cell? ⟨a, 0, none⟩ = some (.int .u64 (now : Int))) (ha : a < w.heap.size) : Calls Tryz.prog 124 #[.agg (aa x), .pointer (some ⟨a, 0, none⟩)] w fun e w' => e = .returned (.bool (decide (x.slot.toNat < now))) ∧ Below w.heap.size w w' := by
 obtain ⟨W, hW⟩ : ∃ W, W = w.alloc (.cells (aa x) 113) := ⟨_, rfl⟩
 have hx : W.heap[w.heap.size]? = some (.cells (aa x) 113 (0, 0)) := by rw [hW]; exact heap_alloc_last w _
 have HB : Hid (Below w.heap.size w W) := by rw [hW]; exact below1
 have z := zl7 hx
 unfold num at z
 have z2 : W.cell? ⟨a, 0, none⟩ = some (.int .u64 (now : Int)) := by rw [HB.out.cell ha]; exact hz
 obtain ⟨y, hy⟩ : ∃ y, y = x.slot.toNat := ⟨_, rfl⟩
 rw [← hy] at z
 rw [← hy]
 obtain ⟨b, hb⟩ : ∃ b, b = decide (y < now) := ⟨_, rfl⟩
 rw [← hb]
 have t0 : decide ((y : Int) < (now : Int)) = b := by rw [hb]; exact decide_eq_decide.2 (by omega)
 have t1 : decide (y < now) = b := hb.symm
 have HW := Lib.hid hW
 clear hx hW hb hy hz ha
 go_enter Tryz.func124, Tryz.ntmps124
 go_upto_region 1 with fail
 rw [← HW.out]
 go_wp2_with fail
 go_ret
 exact ⟨by first | rfl | simp [t1], HB.out⟩
theorem zk9 : ∀ args w, (callFunc 124 args).run Tryz.prog w = .ok (.enter 124 args) w := za7 Tryz.func124 (by kernel_rfl) (by kernel_rfl)
theorem z5q (p : Option Addr) (n cp : Nat) (l : List Aa) (now : Nat) (w : World) (h : SlE Eaa w (.slice p n cp) l) (hl : l.length = n) (hn : n ≤ 1000) :
  Calls Tryz.prog 88 #[.slice p n cp, .int .u64 (now : Int)] w (zvi (dueL l now) (zig l now) w) := by
 obtain ⟨W, hW⟩ : ∃ W, W = w.alloc (.cells #[.int .u64 (now : Int)] 27) := ⟨_, rfl⟩
 have HB : Hid (Below w.heap.size w W) := by rw [hW]; exact below1
 have hz : W.cell? ⟨w.heap.size, 0, none⟩ = some (.int .u64 (now : Int)) := by rw [hW]; exact cell_of_row _ _ _ _ _ _ (heap_alloc_last w _)
 have hsz : w.heap.size < W.heap.size := by rw [hW]; simp
 have HP := Lib.hid (z1c 124 #[.pointer (some ⟨w.heap.size, 0, none⟩)] zk9 now p n cp l W (zad HB.out h) hl hn
  (fun k W' _ g => z5t _ now _ W' (by rw [g.cell hsz]; exact hz) (Nat.lt_of_lt_of_le hsz g.size)))
 have HW := Lib.hid hW
 clear h hl hn hW hz hsz
 go_enter Tryz.func88, Tryz.ntmps88
 go_upto_region 1 with fail
 rw [← HW.out]
 go_wp2_with fail
 refine HP.out.mono ?_
 rintro e w1 ⟨v1, v2, rfl, h1, h2, g⟩
 have H1 := Lib.hid h1
 have H2 := Lib.hid h2
 have HG := Lib.hid (zab HB.out g)
 clear h1 h2 g
 go_wp2_with fail
 go_ret2
 exact ⟨_, _, rfl, H1.out, H2.out, HG.out⟩
theorem yf0 (v : Value) (l : List Aa) (now : Nat) (w : World) (h : SlE Eaa w v l) (hn : l.length ≤ 1000) :
  Calls Tryz.prog 88 #[v, .int .u64 (now : Int)] w (zvi (dueL l now) (zig l now) w) := by
 have k := h
 obtain ⟨p, cp, rfl, _⟩ := zal h
 exact z5q p _ cp l now w k rfl hn
end Go.Proofs.YtkalofboioffiaaGreat
