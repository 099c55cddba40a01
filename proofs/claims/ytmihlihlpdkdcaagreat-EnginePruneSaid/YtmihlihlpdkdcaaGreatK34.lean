import Derived.Test.YtmihlihlpdkdcaaGreatK33
import Derived.Test.YtmihlihlpdkdcaaGreatQ03
import Derived.Test.YtmihlihlpdkdcaaGreatQ08
import Derived.Test.YtmihlihlpdkdcaaGreatQ01
import Derived.Maps.AppendAt
import Derived.Deep.RegionLaw
import Derived.Laws.AppendOwnNone
import Derived.Laws.BytesArg
import Derived.Laws.CopyOwn
namespace Go.Proofs.YtmihlihlpdkdcaaGreat
open Go.RowKit
set_option maxRecDepth 200000
set_option maxHeartbeats 64000000
theorem zu3 (x : En) (g : Eg) (a : Aa) (w : World) (h : LaidG w x g) (m : MayS' g) (hj : g.j.length ≤ 1000) :
  Calls Tryz.prog 64 #[.agg (en x), .agg (aa a)] w (EgErN (attG g a) (zft g a) x g w) := by
 obtain ⟨W0, hW0⟩ : ∃ W0, W0 = ((w.alloc (.cells (en x) 39)).alloc (.cells (aa a) 62)).alloc (.cells (en zen) 39) := ⟨_, rfl⟩
 obtain ⟨hB, q0, q1, q2, _⟩ := zfw w _ _ _ _ _ _ W0 hW0
 have A : Hid (Gp w x g (w.heap.size + 2) W0 w.heap.size x g) := zfx h hB q0 ⟨_, q2⟩ (Nat.le_refl _) (by omega) (by omega)
 have M := Lib.hid q1
 have HW := Lib.hid hW0
 have sh := zo4 m
 have hm := zdu.2 m
 have HFt := Lib.hid (fun W hh => zv9 x g a W hh)
 have HPt := Lib.hid (fun W (hh : SlE Eaa W (sv x.late) g.late) => ys3 (sv x.late) g.late a W hh (by omega))
 have HMe := Lib.hid hm
 have HCt : Hid (fitG g a = 0 → ∀ W, LaidG W x g → Calls Tryz.prog 93 #[.agg (en x), .agg (aa a)] W (EgErN (ctG g a) (zlz g a) x g W)) := fun e W hh => zp6 x g a W hh m e (by omega)
 obtain ⟨F, hF⟩ : ∃ F, F = fitG g a := ⟨_, rfl⟩
 rw [← hF] at HFt
 have HFe := Lib.hid hF
 obtain ⟨G, hG⟩ : ∃ G, G = attG g a := ⟨_, rfl⟩
 obtain ⟨R, hR⟩ : ∃ R, R = zft g a := ⟨_, rfl⟩
 have HGR : Hid (G = attG g a ∧ R = zft g a) := ⟨hG, hR⟩
 rw [← hG, ← hR]
 obtain ⟨T, hT⟩ : ∃ T, T = w.heap.size := ⟨_, rfl⟩
 obtain ⟨Q, hQ⟩ : ∃ Q, Q = w.heap.size + 2 := ⟨_, rfl⟩
 have HTQ : Hid (T = w.heap.size ∧ Q = w.heap.size + 2) := ⟨hT, hQ⟩
 rw [← hQ, ← hT] at A
 clear hW0 hB q0 q1 q2 h m hj sh hm hF hG hR
 go_enter Tryz.func64, Tryz.ntmps64
 go_upto_region 1 with fail
 rw [← HW.out, ← hQ, ← hT]
 clear hT hQ
 have z := A.out.s.v.z
 have z1 := (aa_v M.out).all
 rw [← HTQ.out.1] at z1
 go_wp2_with fail
 refine (HFt.out _ A.out.s.l).mono ?_
 rintro e w2 ⟨rfl, gg⟩
 replace A := Lib.hid (A.out.keep gg)
 replace M := Lib.hid (zab gg M.out)
 clear gg z z1 HFt
 by_cases h0 : F = 0
 ·
  have HF0 : Hid (fitG g a = 0) := by show _ = 0; rw [← HFe.out]; exact h0
  subst h0
  have z1 := (aa_v M.out).slot
  rw [← HTQ.out.1] at z1
  have zn := A.out.s.v.zn
  obtain ⟨S, hS⟩ : ∃ n, n = a.slot.toNat := ⟨_, rfl⟩
  obtain ⟨N, hN⟩ : ∃ n, n = g.now.toNat := ⟨_, rfl⟩
  rw [← hS] at z1
  rw [← hN] at zn
  by_cases hlt : S < N
  ·
   have t1 : decide ((S : Int) < (N : Int)) = true := decide_eq_true (by omega)
   have t1' : decide (S < N) = true := decide_eq_true hlt
   have HH : Hid (G = ctG g a ∧ R = zlz g a) := by
    obtain ⟨e1, e2⟩ := yno HMe.out HF0.out (by rw [← hS, ← hN]; exact hlt)
    exact ⟨HGR.out.1.trans e1, HGR.out.2.trans e2⟩
   have HC2 := Lib.hid (HCt.out HF0.out)
   have z := A.out.s.v.z
   have z2 := (aa_v M.out).all
   rw [← HTQ.out.1] at z2
   clear hS hN hlt
   rw [← HH.out.1, ← HH.out.2] at HC2
   go_wp2_with fail
   refine (HC2.out _ A.out.s.l).mono ?_
   rintro e w3 ⟨y, rfl, ly, gg, fy⟩
   have FR := Lib.hid (fy Q A.out.r A.out.fr)
   have FF : Hid (∀ U, EnAt w U → FarG U x g → FarG U y G) := fun U hU hf => fy U (A.out.at_ hU) (A.out.ff U hU hf)
   replace A := Lib.hid (A.out.keep gg)
   have LY := Lib.hid ly
   have wr := A.out.wrR
   clear gg z z1 z2 zn t1 t1' fy M ly
   go_wp2_with fail
   have E := A.out.retAll R LY.out FR.out FF.out
   exact bodyPost_ret (zal Tryz.isAgg39 Tryz.sizeOf39 _ 4 5 rfl _ _ _ _ _ rfl rfl (A.out.outAll y)) rfl E
  ·
   have t1 : decide ((S : Int) < (N : Int)) = false := decide_eq_false (by omega)
   have t1' : decide (S < N) = false := decide_eq_false hlt
   have HH : Hid (G = { g with late := putA g.late a } ∧ R = putE g.late a) := by
    obtain ⟨e1, e2⟩ := ycw HMe.out HF0.out (by rw [← hS, ← hN]; exact hlt)
    exact ⟨HGR.out.1.trans e1, HGR.out.2.trans e2⟩
   have zl := A.out.s.v.zl
   have z2 := (aa_v M.out).all
   rw [← HTQ.out.1] at z2
   obtain ⟨LL, hLL⟩ : ∃ l, l = putA g.late a := ⟨_, rfl⟩
   have HP2 : Hid (∀ W, SlE Eaa W (sv x.late) g.late → Calls Tryz.prog 94 #[sv x.late, .agg (aa a)] W (yht LL R W)) := by
    show ∀ _, _
    rw [hLL, HH.out.2]; exact HPt.out
   have HG : Hid (G = { g with late := LL }) := by show _ = _; rw [hLL]; exact HH.out.1
   clear hS hN hlt hLL HPt HH
   go_wp2_with fail
   refine (HP2.out _ A.out.s.l.late).mono ?_
   rintro e w3 ⟨vl, rfl, hl, gg⟩
   obtain ⟨pl, cl, rfl⟩ := zz9 hl
   replace A := Lib.hid (A.out.keep gg)
   have SL := Lib.hid hl
   clear gg zl z1 z2 zn t1 t1' hl M
   have zl := A.out.s.v.zl
   have fl := A.out.s.fz 5
   go_upto_region 7 with fail
   have A5 := A.out.putLate (s := ⟨pl, LL.length, cl⟩) SL.out
   rw [zat] at A5
   obtain ⟨w5, hw5⟩ : ∃ w5, w5 = w3.setCell ⟨T, 5, none⟩ (.slice pl LL.length cl) := ⟨_, rfl⟩
   rw [← hw5] at A5 ⊢
   replace A := Lib.hid A5
   clear A5 hw5 zl fl SL
   have z := A.out.s.v.z
   have wr := A.out.wrR
   go_wp2_with fail
   have E := A.out.ret R
   rw [← HG.out] at E
   exact bodyPost_ret (zal Tryz.isAgg39 Tryz.sizeOf39 _ 4 5 rfl _ _ _ _ _ rfl rfl A.out.out) rfl E
 ·
  have HH : Hid (G = g ∧ R = F) := by
   obtain ⟨e1, e2⟩ := ymc (a := a) HMe.out (by rw [← HFe.out]; exact h0)
   exact ⟨HGR.out.1.trans e1, HGR.out.2.trans (e2.trans HFe.out.symm)⟩
  have t0 : ((F : Int) == 0) = false := by simp; omega
  have t0n : ((F : Int) != 0) = true := by simp; omega
  have t0' : decide (F = 0) = false := decide_eq_false h0
  have z := A.out.s.v.z
  have wr := A.out.wrR
  clear h0
  go_wp2_with fail
  have E := A.out.ret F
  rw [HH.out.1, HH.out.2]
  exact bodyPost_ret (zal Tryz.isAgg39 Tryz.sizeOf39 _ 4 5 rfl _ _ _ _ _ rfl rfl A.out.out) rfl E
section
open Go.WideShapes Go.ChangeShapes
open Go.RowKit
theorem Tryz.infoByte : (Tryz.prog.info? 5).map (fun i => (i.zero, i.size, i.bytes)) = some (some (.int .u8 0), 1, 1) := by kernel_rfl
theorem Tryz.sizeByte : (Tryz.prog.info? 5).map (·.size) = some 1 := by kernel_rfl
def SlB (w : World) (v : Value) (l : List UInt8) : Prop :=
 ∃ p cap, v = .slice p l.length cap ∧ l.length ≤ cap ∧ (l = [] ∨ ∃ b off, p = some ⟨b, off, none⟩ ∧ b < w.heap.size ∧ ∀ i, i < l.length → w.cell? ⟨b, off + i, none⟩ = some (.int .u8 (bt l i)))
theorem ypv (w : World) (p : Option Addr) (cap : Nat) : SlB w (.slice p 0 cap) [] := ⟨p, cap, rfl, Nat.zero_le _, .inl rfl⟩
theorem zdn {w w' : World} (g : Below w.heap.size w w') {v : Value} {l : List UInt8} (h : SlB w v l) : SlB w' v l := by
 obtain ⟨p, cap, rfl, hc, h⟩ := h
 refine ⟨p, cap, rfl, hc, h.imp id ?_⟩
 rintro ⟨b, off, rfl, hb, h⟩
 exact ⟨b, off, rfl, Nat.lt_of_lt_of_le hb g.size, fun i hi => by rw [g.cell (p := ⟨b, off + i, none⟩) hb]; exact h i hi⟩
theorem z0x {w : World} {v : Value} {l : List UInt8} (h : SlB w v l) (hn : 0 < l.length) : ∃ b off cap, v = .slice (some ⟨b, off, none⟩) l.length cap ∧ l.length ≤ cap ∧ b < w.heap.size ∧ ∀ i, i < l.length → w.cell? ⟨b, off + i, none⟩ = some (.int .u8 (bt l i)) := by
 obtain ⟨p, cap, rfl, hc, h⟩ := h
 obtain ⟨b, off, rfl, hb, h⟩ := h.resolve_left (fun e => by rw [e] at hn; simp at hn)
 exact ⟨b, off, cap, rfl, hc, hb, h⟩
theorem yeu {w : World} {v : Value} {l : List UInt8} (h : SlB w v l) : ∃ p cap, v = .slice p l.length cap ∧ l.length ≤ cap := by
 obtain ⟨p, cap, rfl, hc, _⟩ := h
 exact ⟨p, cap, rfl, hc⟩
def Own (w : World) (base : Nat) (v : Value) (l : List UInt8) : Prop := w.ownsRow base 5 1 v l.length (b8 l)
theorem yp8 {w : World} {base : Nat} {v : Value} {l : List UInt8} (h : Own w base v l) : SlB w v l := by
 rcases h.2 with ⟨rfl, h0⟩ | ⟨g, cap, cur, rfl, hg1, hg2, hn1, hn2, hn3, hn4⟩
 ·
  have : l = [] := List.length_eq_zero_iff.1 h0
  subst this
  exact ypv _ _ _
 ·
  refine ⟨_, _, rfl, hn1, .inr ⟨g, 0, rfl, (Array.getElem?_eq_some_iff.1 hg2).1, fun i hi => ?_⟩⟩
  rw [Nat.zero_add, cell_of_row w g i cur _ _ hg2]
  have e : (cur.toList.take (l.length * 1))[i]? = (b8 l)[i]? := by rw [hn4]
  rw [List.getElem?_take, if_pos (by omega), z6z l i hi] at e
  simpa using e
theorem ykp {w : World} {base base' : Nat} {v : Value} {l : List UInt8} (h : Own w base v l) (hb : base' ≤ base) : Own w base' v l := by
 refine ⟨h.1, h.2.imp id ?_⟩
 rintro ⟨g, cap, cur, h1, h2, h3⟩
 exact ⟨g, cap, cur, h1, Nat.le_trans hb h2, h3⟩
theorem ym4 (w : World) (cap : Nat) (hc : cap ≤ maxLen) (c : Array Value) (hs : c.size = cap) (b : Nat) (hb : b = w.heap.size) : Own (w.alloc (.cells c 5)) b (.slice (some ⟨b, 0, none⟩) 0 cap) [] := by
 subst hb
 exact World.ownsRow_made w c cap (Nat.le_refl _) hc (by omega)
theorem zs3 {w : World} {base : Nat} {v : Value} {l : List UInt8} (h : Own w base v l) (o : Obj) : Own (w.alloc o) base v l := World.ownsRow.alloc h o
theorem yuf {w : World} {base : Nat} {v : Value} {l : List UInt8} (h : Own w base v l) {b : Nat} (hb : w.heap.size ≤ b) : v.ownBlock ≠ some b := fun e => by
 have := (World.ownsRow.lt h b e).2
 omega
theorem yh7 (w : World) (l : List UInt8) (t : TypeId) (c : Array Value) (b : Nat) (hb : b = w.heap.size) (hc : c = (b8 l).toArray) : SlB (w.alloc (.cells c t)) (.slice (some ⟨b, 0, none⟩) l.length l.length) l := by
 subst hb hc
 refine ⟨_, _, rfl, Nat.le_refl _, .inr ⟨w.heap.size, 0, rfl, by simp, fun i hi => ?_⟩⟩
 rw [Nat.zero_add, cell_of_row _ _ i _ _ _ (heap_alloc_last w _), List.getElem?_toArray]
 exact z6z l i hi
theorem ysk (x : UInt8) (X : Int) (h : X = (x.toNat : Int)) : #[Value.int .u8 X] = (b8 [x]).toArray := by subst h; rfl
def Grw (w : World) (v : Value) (w' : World) (v' : Value) : Prop := w.grownBy w' v.ownBlock ∧ (v'.ownBlock = v.ownBlock ∨ ∀ k, v'.ownBlock = some k → w.heap.size ≤ k)
theorem Grw.refl (w : World) (v : Value) : Grw w v w v := ⟨⟨rfl, rfl, rfl, Nat.le_refl _, fun _ _ _ => rfl⟩, .inl rfl⟩
theorem Grw.trans {w w1 w2 : World} {v v1 v2 : Value} (h : Grw w v w1 v1) (k : Grw w1 v1 w2 v2) : Grw w v w2 v2 := by
 obtain ⟨hg, ho⟩ := h
 obtain ⟨kg, ko⟩ := k
 have hs := hg.size
 refine ⟨⟨kg.os.trans hg.os, kg.tape.trans hg.tape, kg.output.trans hg.output, Nat.le_trans hs kg.size, fun q hq hne => ?_⟩, ?_⟩
 ·
  rw [kg.block q (by omega) (fun e => ?_), hg.block q hq hne]
  rcases ho with ho | ho
  ·
   exact hne (by rw [e, ho])
  ·
   have := ho q e.symm; omega
 ·
  rcases ko with ko | ko
  ·
   rcases ho with ho | ho
   ·
    exact .inl (ko.trans ho)
   ·
    exact .inr fun q hq => ho q (by rw [← ko]; exact hq)
  ·
   exact .inr fun q hq => Nat.le_trans hs (ko q hq)
theorem Grw.below {w w' : World} {v v' : Value} (h : Grw w v w' v') {base : Nat} (hb : base ≤ w.heap.size) (hv : ∀ k, v.ownBlock = some k → base ≤ k) : Below base w w' := (Below.refl base w).grown h.1 hb hv
theorem Grw.own {w w' : World} {v v' : Value} (h : Grw w v w' v') {base : Nat} {l : List UInt8} (ho : Own w base v l) (hb : base ≤ w.heap.size) : Below base w w' := h.below hb (fun k hk => (World.ownsRow.lt ho k hk).1)
theorem Grw.alloc {w : World} {o : Obj} {w' : World} {v v' : Value} (h : Grw (w.alloc o) v w' v') : Grw w v w' v' := by
 obtain ⟨hg, ho⟩ := h
 have hs := hg.size
 have e : (w.alloc o).heap.size = w.heap.size + 1 := by simp
 refine ⟨⟨hg.os, hg.tape, hg.output, by omega, fun q hq hne => ?_⟩, ho.imp id fun h k hk => by have := h k hk; omega⟩
 rw [hg.block q (by omega) hne, Below.heap_alloc w o q hq]
theorem Grw.block {w w' : World} {v v' : Value} (h : Grw w v w' v') {b : Nat} (hb : b < w.heap.size) (hne : v.ownBlock ≠ some b) : w'.heap[b]? = w.heap[b]? := h.1.block b hb (fun e => hne e.symm)
theorem yep {w : World} {b off : Nat} {l : List UInt8} (h : ∀ i, i < l.length → w.cell? ⟨b, off + i, none⟩ = some (.int .u8 (bt l i))) : ∀ (j : Nat) (u : Value), (b8 l)[j]? = some u → w.cell? ((⟨b, off, none⟩ : Addr).add j) = some u := fun j u hu => by
 have hj : j < l.length := by have := (List.getElem?_eq_some_iff.1 hu).1; rwa [zkb] at this
 rw [Addr.add_mid, h j hj, ← hu, z6z l j hj]
theorem zqh {P : Program} {w : World} (base : Nat) (t ty e : TypeId) (i : TypeInfo) (size : Nat) (ht : P.underlying t = some (.slice e)) (hi : P.info? e = some i)
  (v : Value) (n : Nat) (xs : List Value) (hown : w.ownsRow base e size v n xs) (p : Option Addr) (c : Nat) :
  (Builtin.append_ #[t, t] ty #[v, .slice p 0 c]).run P w = .ok v w := by
 rcases hown.2 with ⟨rfl, rfl⟩ | ⟨g, cap, cur, rfl, _, _, hnc, _⟩
 ·
  cases p <;> simp [Builtin.append_, run_underlying ht, sizeOf, typeInfo, hi, Builtin.lenOf, Builtin.firstCells, loadCells, loadCellsFrom]
 ·
  cases p <;> simp [Builtin.append_, run_underlying ht, sizeOf, typeInfo, hi, Builtin.lenOf, Builtin.firstCells, loadCells, loadCellsFrom, hnc, storeCells]
theorem zqq (w : World) (ty : TypeId) (base : Nat) (v : Value) (k : List UInt8) (hown : Own w base v k) (vx : Value) (l : List UInt8) (hsl : SlB w vx l) (hlen : k.length + l.length ≤ 140737488355328) (hbase : base ≤ w.heap.size) :
  ∃ v' w', (Builtin.append_ #[46, 46] ty #[v, vx]).run Tryz.prog w = .ok v' w' ∧ Own w' base v' (k ++ l) ∧ Grw w v w' v' := by
 obtain ⟨i, hi, hz0, hz1, hz2⟩ := info_parts Tryz.infoByte
 by_cases hn : l = []
 ·
  subst hn
  obtain ⟨p, cap, rfl, _⟩ := hsl
  exact ⟨v, w, zqh (P := Tryz.prog) (w := w) base 46 ty 5 i 1 Tryz.underlying46 hi v k.length _ hown p cap, by simpa using hown, Grw.refl _ _⟩
 ·
  obtain ⟨b, off, cap, rfl, _, _, hc⟩ := z0x hsl (List.length_pos_iff.2 hn)
  obtain ⟨v', w', h1, h2, h3, _, h5⟩ := run_append_own_at (P := Tryz.prog) w base 46 ty 5 i (.int .u8 0) 1 1 Tryz.underlying46 hi hz0 hz1 hz2 rfl (by decide) v k.length (b8 k) hown ⟨b, off, none⟩ l.length cap (b8 l) (by simp [zkb]) (yep hc) (yo7 l) (by unfold maxLen; omega) (by omega) hbase
  refine ⟨v', w', h1, ?_, h3, h5.imp id fun e q hq => ?_⟩
  ·
   unfold Own; rw [List.length_append, yf3]; exact h2
  ·
   rw [e] at hq; injection hq with hq; omega
theorem zrh (w : World) {o : Oper} {a : Act} {K : Act → World → Prop} {Q : Exit → Act → World → Prop} (s x : Operand)
  (ho : o.op = .call { callee := .builtin .append, args := #[s, x], argTypes := #[46, 46] })
  (base : Nat) (v : Value) (k : List UInt8) (hs : a.eval s = v) (hown : Own w base v k) (vx : Value) (l : List UInt8) (hx : a.eval x = vx) (hsl : SlB w vx l)
  (hlen : k.length + l.length ≤ 140737488355328) (hbase : base ≤ w.heap.size)
  (h : ∀ v' w', Own w' base v' (k ++ l) → Grw w v w' v' → K (a.put o.dst v') w') : o.wp Tryz.prog a w K Q := by
 obtain ⟨v', w', hr, h2, h3⟩ := zqq w o.type base v k hown vx l hsl hlen hbase
 unfold Oper.wp execOp
 simp only [ho, resolve, invoke, builtin, Sem.run_bind, Sem.run_pure, Result.andThen_ok, List.map_toArray, List.map_cons, List.map_nil, hs, hx, hr]
 exact h v' w' h2 h3
theorem zdd (w : World) {ops : Array Oper} {rest : List Oper} {o : Oper} {a : Act} {Q : Exit → Act → World → Prop} (hgd : o.guard = none) (s x : Operand)
  (ho : o.op = .call { callee := .builtin .append, args := #[s, x], argTypes := #[46, 46] })
  (base : Nat) (v : Value) (k : List UInt8) (hs : a.eval s = v) (hown : Own w base v k) (vx : Value) (l : List UInt8) (hx : a.eval x = vx) (hsl : SlB w vx l)
  (hlen : k.length + l.length ≤ 140737488355328) (hbase : base ≤ w.heap.size)
  (h : ∀ v' w', Own w' base v' (k ++ l) → Grw w v w' v' → wpList Tryz.prog ops Q rest (a.put o.dst v') w') : wpList Tryz.prog ops Q (o :: rest) a w :=
 wpList_plain hgd fun _ hK => zrh w s x ho base v k hs hown vx l hx hsl hlen hbase fun v' w' h2 h3 => hK _ _ (h v' w' h2 h3)
def z0a (v lo : Value) : Option Value :=
 match v, lo with
 | .slice a len cap, .int _ l => if 0 ≤ l ∧ l ≤ len then some (sliced a l.toNat len cap 1) else none
 | _, _ => none
def yca (v hi : Value) : Option Value :=
 match v, hi with
 | .slice a _ cap, .int _ h => if 0 ≤ h ∧ h ≤ cap then some (sliced a 0 h.toNat cap 1) else none
 | _, _ => none
def vOut (o : Option Value) (w : World) (r : Result Next) : Result Next :=
 match o with
 | some v => .ok (.value v) w
 | none => r
@[go_sem] theorem yt5 (v : Value) (w : World) (r : Result Next) : vOut (some v) w r = .ok (.value v) w := rfl
theorem zig : Tryz.prog.underlying 46 = some (.slice (Tryz.prog.elem 46)) := by simp [Program.elem, Tryz.underlying46]
theorem zu2 : Tryz.prog.elem 46 = 5 := by simp [Program.elem, Tryz.underlying46]
@[go_sem ↓] theorem yb3 (ρ : Operand → Value) (dst : Option Tmp) (x lo : Operand) (ty : TypeId) (pos : String) (after : Array Edge) (guard : Option (Nat × Bool)) (w : World) :
  (execOp ρ { dst, op := .slice 46 x (some lo) none none, type := ty, pos, after, guard }).run Tryz.prog w = vOut (z0a (ρ x) (ρ lo)) w (zbe Tryz.prog ρ { dst, op := .slice 46 x (some lo) none none, type := ty, pos, after, guard } w) := by
 cases h : z0a (ρ x) (ρ lo) with
 | none => rfl
 | some v =>
  unfold z0a at h
  split at h
  ·
   rename_i a len cap k l hx hl
   split at h
   ·
    rename_i hb
    have hv := Option.some.inj h
    subst hv
    unfold execOp
    simp only [hx, hl, Option.map_some, Option.map_none, Sem.run_bind]
    rw [run_sliceAt_slice w _ _ _ _ _ zig, run_slice_l w _ a len cap zig k l hb.1 hb.2, zu2, Tryz.sizeOf5]
    rfl
   ·
    cases h
  ·
   cases h
@[go_sem ↓] theorem yij (ρ : Operand → Value) (dst : Option Tmp) (x hi : Operand) (ty : TypeId) (pos : String) (after : Array Edge) (guard : Option (Nat × Bool)) (w : World) :
  (execOp ρ { dst, op := .slice 46 x none (some hi) none, type := ty, pos, after, guard }).run Tryz.prog w = vOut (yca (ρ x) (ρ hi)) w (zbe Tryz.prog ρ { dst, op := .slice 46 x none (some hi) none, type := ty, pos, after, guard } w) := by
 cases h : yca (ρ x) (ρ hi) with
 | none => rfl
 | some v =>
  unfold yca at h
  split at h
  ·
   rename_i a len cap k l hx hl
   split at h
   ·
    rename_i hb
    have hv := Option.some.inj h
    subst hv
    unfold execOp
    simp only [hx, hl, Option.map_some, Option.map_none, Sem.run_bind]
    rw [run_sliceAt_slice w _ _ _ _ _ zig, run_slice_h w _ a len cap zig k l hb.1 hb.2, zu2, Tryz.sizeOf5]
    rfl
   ·
    cases h
  ·
   cases h
theorem zm4 (p : Option Addr) (cap : Nat) (l : List UInt8) (n : Nat) (hn : n ≤ l.length) (hc : l.length ≤ cap) : ∃ vr, z0a (.slice p l.length cap) (.int .i64 (n : Int)) = some vr ∧ ∀ (w : World), SlB w (.slice p l.length cap) l → SlB w vr (l.drop n) := by
 refine ⟨sliced p n l.length cap 1, ?_, fun w h => ?_⟩
 ·
  show (if 0 ≤ (n : Int) ∧ (n : Int) ≤ (l.length : Int) then some (sliced p (n : Int).toNat l.length cap 1) else none) = _
  rw [if_pos (by omega), Int.toNat_natCast]
 ·
  unfold sliced
  refine ⟨_, cap - n, by rw [List.length_drop], by rw [List.length_drop]; omega, ?_⟩
  by_cases e : n = l.length
  ·
   left; rw [e, List.drop_length]
  ·
   right
   obtain ⟨b, off, cap', e1, _, hb, hx⟩ := z0x h (by omega)
   injection e1 with e2 _ e3
   subst e2 e3
   rw [if_neg (by omega)]
   refine ⟨b, off + n, by simp [Addr.add_mid], hb, fun i hi => ?_⟩
   rw [List.length_drop] at hi
   rw [Nat.add_assoc, hx (n + i) (by omega), ypx]
section
open Go.WideShapes Go.ChangeShapes
variable {H : Type} {enc : TypeId × Value → H} {w : World} {base : Nat} {sp : Nat → Bool} {held : Bool}
end
end
end Go.Proofs.YtmihlihlpdkdcaaGreat
