import Derived.Test.YtkalofboioffiaaGreatQ28
namespace Go.Proofs.YtkalofboioffiaaGreat
open Go.RowKit
set_option maxRecDepth 200000
set_option maxHeartbeats 64000000
section
open Go.Shelf
attribute [local go_sem] Oper.semAt_some
@[local go_sem ↓ high] theorem ykb {P : Program} (l : Option Nat) (ρ : Operand → Value) (o : Oper) (w : World) (h : ∀ c, o.op ≠ .defer c) : (Oper.semAt l ρ o).run P w = (execOp ρ o).run P w := by rw [Oper.semAt_eq l ρ o h]
theorem ycd {s0 n₀ D b N : Nat} {S : List Ck} {W W' : World} (h : OwnsC W b N S) (g : But s0 n₀ D W W') (h1 : b < n₀) (h2 : b ≠ D) : OwnsC W' b N S := h.blk (g.block b h1 h2)
theorem But.map {s0 n₀ D : Nat} {A W W' : World} (h : But s0 n₀ D A W) (g : W.grownBy W' (some D)) (hs : s0 ≤ n₀) (hn : n₀ ≤ W.heap.size) (hD : s0 ≤ D) : But s0 n₀ D A W' :=
 h.trans ⟨(Below.refl _ _).grown g (Nat.le_trans hs hn) (fun k hk => by cases hk; exact hD), fun k hk hne => g.block k (Nat.lt_of_lt_of_le hk hn) (fun e => by cases e; exact hne rfl)⟩
theorem yi3 (a : UInt64) : IntKind.u64.wrap ((a.toNat : Int) + 1) = ((a + 1).toNat : Int) := by
 have h3 : (a + 1).toNat = (a.toNat + 1) % 18446744073709551616 := by rw [UInt64.toNat_add]; rfl
 rw [h3, IntKind.wrap_u64]
 omega
structure Fiw (s0 n₀ D bt bs bm : Nat) (js : List Ck) (w : World) (pre : List Lk) (W : World) : Prop where
 src : OwnsC W D pre.length (srcs js pre)
 but : But s0 n₀ D w W
theorem ylu {s0 n₀ D bt bs bm B : Nat} {js : List Ck} {w : World} (hn : n₀ ≤ B) (hD : D < n₀) (h0 : n₀ ≤ w.heap.size) (hs : s0 ≤ n₀) : OwnFrom B (fun (pre : List Lk) W => Fiw s0 n₀ D bt bs bm js w pre W) := fun pre X Y row h hg hr =>
 ⟨h.src.blk (hg.block D h.src.lt (fun e => by have := (hr D e.symm).1; omega)), But.own (α := Unit) (B := B) hn h0 hs [] X Y row h.but hg hr⟩
theorem zyy (s : SlV) (u vb : Value) (p : Option Addr) (n cp : Nat) (l : List Nd) (ls : List Lk) (bal : List UInt64) (js : List Ck) (w : World) (h : SlE Ene w (sv s) l) (h1 : SlE Elk w u ls) (h2 : SlE Enum w vb bal) (h3 : SlE Ecc w (.slice p n cp) js) (hl : js.length = n) (hn : n ≤ 2000) (hm : ls.length ≤ 1000) :
  Calls Tryz.prog 160 #[.agg (tr ⟨s⟩), u, vb, .slice p n cp] w fun e w' => ∃ v, e = .returned v ∧ OwnE Ecc w' w.heap.size v (zcx l ls bal js) ∧ Below w.heap.size w w' := by
 have HC := Lib.hid (fun W (g : Below w.heap.size w W) => zsy s u vb l ls bal W (zad g h) (zad g h1) (zad g h2) hm)
 have HG1 := Lib.hid (fun W (g : Below w.heap.size w W) => zpy p n cp js W (zad g h3) hl hn)
 have HG2 := Lib.hid (fun W => zpy none 0 0 [] W (zbr _ _ _ _) rfl (by omega))
 obtain ⟨r, hr⟩ : ∃ r, r = zcx l ls bal js := ⟨_, rfl⟩
 rw [← hr]
 obtain ⟨L, hL⟩ : ∃ L, L = cntL l ls bal := ⟨_, rfl⟩
 have HR : Hid (r = js.filter fun c => decide (c ∈ srcs js L)) := by show _ = _; rw [hr, hL]; exact zps
 have HLl : Hid (L.length ≤ 1000) := by show _ ≤ _; rw [hL]; exact Nat.le_trans (z24 _ _ _) hm
 have HLe := Lib.hid hL
 have HL := Lib.hid hl
 have HN := Lib.hid hn
 have K := Lib.hid h3
 obtain ⟨W0, hW0⟩ : ∃ W0, W0 = w.alloc (.cells (tr ⟨s⟩) 24) := ⟨_, rfl⟩
 have HB : Hid (Below w.heap.size w W0) := by rw [hW0]; exact below1
 have T0 : Hid (W0.heap[w.heap.size]? = some (.cells (tr ⟨s⟩) 24 (0, 0))) := by rw [hW0]; exact heap_alloc_last w _
 have HW := Lib.hid hW0
 clear hW0 h h1 h2 h3 hl hn hm hr hL
 refine callsIn_wide.1 (callsIn_of_wp_marks (n := 3) Tryz.func160 rfl trivial (wpIn_wide.2 ?_))
 simp only [Tryz.ntmps160, List.size_toArray, List.length_cons, List.length_nil, Nat.reduceAdd, Nat.reduceSub, Array.replicate_succ, Array.replicate_zero, List.push_toArray, List.append_toArray, List.nil_append, List.cons_append]
 go_upto_region 1 with fail
 rw [← HW.out]
 go_wp2_with fail
 refine (HG1.out W0 HB.out).mono ?_
 rintro e w1 ⟨rfl, hown, g⟩
 have OT := Lib.hid hown
 have G1 := Lib.hid (zac HB.out g)
 have HZ0 : Hid (w.heap.size < W0.heap.size) := (Array.getElem?_eq_some_iff.1 T0.out).1
 replace T0 := Lib.hid (zab g T0.out)
 obtain ⟨bm, hbm⟩ : ∃ bm, bm = W0.heap.size := ⟨_, rfl⟩
 rw [← hbm] at OT HZ0 ⊢
 clear g hown HW HB hbm HG1
 go_upto_region 2 with fail
 obtain ⟨W2, hW2⟩ : ∃ W2, W2 = w1.alloc (.cells #[.map (some bm)] 188) := ⟨_, rfl⟩
 rw [← hW2]
 have g2 : Below w1.heap.size w1 W2 := by rw [hW2]; exact below1
 have BT : Hid (W2.heap[w1.heap.size]? = some (.cells #[.map (some bm)] 188 (0, 0))) := by show _ = _; rw [hW2]; exact heap_alloc_last w1 _
 have HZ1 : Hid (bm < w1.heap.size) := OT.out.lt
 replace OT := Lib.hid (OT.out.keep g2)
 replace T0 := Lib.hid (zab g2 T0.out)
 have G2 := Lib.hid (zac G1.out g2)
 obtain ⟨bt, hbt⟩ : ∃ bt, bt = w1.heap.size := ⟨_, rfl⟩
 rw [← hbt] at BT HZ1 ⊢
 clear hW2 g2 hbt G1
 go_wp2_with fail
 refine (HG2.out W2).mono ?_
 rintro e w3 ⟨rfl, hown, g⟩
 have OS := Lib.hid hown
 have HZ2 : Hid (bt < W2.heap.size) := (Array.getElem?_eq_some_iff.1 BT.out).1
 replace OT := Lib.hid (OT.out.keep g)
 replace T0 := Lib.hid (zab g T0.out)
 replace BT := Lib.hid (zab g BT.out)
 have G3 := Lib.hid (zac G2.out g)
 obtain ⟨D, hD⟩ : ∃ D, D = W2.heap.size := ⟨_, rfl⟩
 rw [← hD] at OS HZ2 ⊢
 clear g hown hD HG2 G2
 go_upto_region 3 with fail
 obtain ⟨W4, hW4⟩ : ∃ W4, W4 = w3.alloc (.cells #[.map (some D)] 188) := ⟨_, rfl⟩
 rw [← hW4]
 have g4 : Below w3.heap.size w3 W4 := by rw [hW4]; exact below1
 have BS : Hid (W4.heap[w3.heap.size]? = some (.cells #[.map (some D)] 188 (0, 0))) := by show _ = _; rw [hW4]; exact heap_alloc_last w3 _
 have HZ3 : Hid (D < w3.heap.size) := OS.out.lt
 replace OT := Lib.hid (OT.out.keep g4)
 replace OS := Lib.hid (OS.out.keep g4)
 replace T0 := Lib.hid (zab g4 T0.out)
 replace BT := Lib.hid (zab g4 BT.out)
 have G4 := Lib.hid (zac G3.out g4)
 obtain ⟨bs, hbs⟩ : ∃ bs, bs = w3.heap.size := ⟨_, rfl⟩
 rw [← hbs] at BS HZ3 ⊢
 clear hW4 g4 hbs G3
 have z0 := (zaw T0.out).2.1
 go_wp2_with fail
 refine (HC.out W4 G4.out).mono ?_
 rintro e w5 ⟨b, m, c, q, rfl, hb, hlm, ho, hge, g⟩
 rw [← HLe.out] at hlm ho
 have HZ4 : Hid (bs < W4.heap.size) := (Array.getElem?_eq_some_iff.1 BS.out).1
 have HZ5 : Hid (W4.heap.size ≤ b ∧ b < w5.heap.size) := ⟨hge, (Array.getElem?_eq_some_iff.1 hb).1⟩
 replace OT := Lib.hid (OT.out.keep g)
 replace OS := Lib.hid (OS.out.keep g)
 replace BT := Lib.hid (zab g BT.out)
 replace BS := Lib.hid (zab g BS.out)
 have G5 := Lib.hid (zac G4.out g)
 have HSt := Lib.hid (znz 2 w.heap.size w5.heap.size D b m c q L w5 (by have := g.size; have := HZ4.out; have := HZ3.out; have := HZ2.out; have := HZ1.out; have := HZ0.out; omega) (Nat.le_refl _) (by rw [← hlm]; exact HLl.out) hlm HZ5.out.2 (by have := HZ5.out.1; have := HZ4.out; have := HZ3.out; omega) hb (zat ho) (fun b' o' e hpos => by
  have := zbi ho (b := b') (by rw [e]; rfl)
  have := HZ4.out; have := HZ3.out
  omega))
 have HSZ : Hid (w.heap.size < bm ∧ bm < bt ∧ bt < D ∧ D < bs ∧ bs < w5.heap.size) := ⟨HZ0.out, HZ1.out, HZ2.out, HZ3.out, by have := HZ4.out; have := g.size; omega⟩
 clear g hb hlm ho hge z0 HC G4 HZ0 HZ1 HZ2 HZ3 HZ4 HZ5 T0
 go_wp2_with fail
 refine (wpIn_wide (n := 3)).1 ?_
 refine wpIn_rangeFunc_ownH (w0 := w5) rfl (by omega) (gf := 203) (lb := #[.pointer (some ⟨b, 0, none⟩)]) rfl trivial ze6
  HSt.out z22 (z21 (by have := HSZ.out; omega) (Nat.le_refl _)) (Below.refl _ _) (fun _ => rfl)
  (fun pre W => Fiw w.heap.size w5.heap.size D bt bs bm js w5 pre W) (fun _ _ _ => False)
  (ylu (Nat.le_refl _) (by have := HSZ.out; omega) (Nat.le_refl _) (by have := HSZ.out; omega)) (fun _ _ _ _ _ h _ _ => h)
  ⟨OS.out, But.refl _ _ _ _⟩ (fun (x : Lk) (a' : Act) (W : World) => ∃ b6 : Nat, a' = { tmps := #[.agg (tr ⟨s⟩), u, vb, .slice p n cp, .pointer (some ⟨w.heap.size, 0, none⟩), undef, undef, undef, .slice none 0 0, .pointer (some ⟨bt, 0, none⟩), .pointer (some ⟨bs, 0, none⟩), .pointer (some ⟨b6, 0, none⟩), undef, undef, undef, .slice p n cp, .map (some bm), .map (some D), .agg (tr ⟨s⟩), u, vb, .func (.func 203) #[] #[.pointer (some ⟨b, 0, none⟩)], .agg (lk x), undef, undef, undef, undef, undef, undef, undef, undef, undef, undef, undef, undef, undef, undef, undef, undef, undef, undef, undef, undef, undef, undef, undef, undef, undef, undef, undef, undef, undef, undef, undef, undef, undef], defers := [] } ∧ W.heap[b6]? = some (.cells (lk x) 118 (0, 0)))
  (fun x a' s X Y row ⟨b6, e, h⟩ hg hr => ⟨b6, e, (hg.block b6 (Array.getElem?_eq_some_iff.1 h).1 (fun e => by obtain ⟨_, o, ho, hc⟩ := hr b6 e.symm; rw [h] at ho; cases ho; cases hc)).trans h⟩) ?assign ?body ?done ?stop
 case assign =>
  intro lo pre x W K hI hK
  gi_wp2
  refine hK _ _ ((KeepsOthers.alloc _ _).from _) (But.of_below (below1.mono hI.but.below.size) (by have := HSZ.out; omega)) ⟨hI.src.keep below1, hI.but.then below1 (by have := HSZ.out; omega) hI.but.below.size⟩ ⟨W.heap.size, rfl, heap_alloc_last W _⟩
 case body =>
  rintro lo pre x a' W hlo ⟨rr, hr⟩ hI ⟨b6, rfl, h6⟩ hlen
  have HBT : Hid (W.heap[bt]? = some (.cells #[.map (some bm)] 188 (0, 0))) := hI.but.blk (by have := HSZ.out; omega) (by have := HSZ.out; omega) BT.out
  have HBS : Hid (W.heap[bs]? = some (.cells #[.map (some D)] 188 (0, 0))) := hI.but.blk (by have := HSZ.out; omega) (by have := HSZ.out; omega) BS.out
  have HOT : Hid (OwnsC W bm n js) := ycd OT.out hI.but (by have := HSZ.out; omega) (by have := HSZ.out; omega)
  have HI := Lib.hid hI
  have H6 := Lib.hid h6
  have HLn : Hid (pre.length ≤ 1000) := by show _ ≤ _; have := HLl.out; omega
  have HSw : Hid (w5.heap.size ≤ W.heap.size) := hI.but.below.size
  have HFr := Lib.hid (zom bm n js x.t W HOT.out)
  have c1 := (zaj HBT.out).1
  have c2 := (lk_v h6).t
  have HSn : Hid (srcs js (pre ++ [x]) = srcs js pre ++ (if (decide (x.t ∈ js) && decide ((x.t.epoch.toNat : Int) = ((x.s.epoch + 1).toNat : Int))) = true then [x.s] else [])) := ydd js pre x
  obtain ⟨a, ha⟩ : ∃ a, a = decide (x.t ∈ js) := ⟨_, rfl⟩
  rw [← ha] at HFr HSn
  obtain ⟨E, hE⟩ : ∃ E, E = decide ((x.t.epoch.toNat : Int) = ((x.s.epoch + 1).toNat : Int)) := ⟨_, rfl⟩
  rw [← hE] at HSn
  have HEe := Lib.hid hE
  clear hlen h6 hI hr ha hE
  gi_wp2
  refine ⟨trivial, (callsIn_wide.2 HFr.out).mono ?_⟩
  rintro e W1 ⟨rfl, g1⟩
  have HG1 := Lib.hid g1
  replace HBS := Lib.hid (zab g1 HBS.out)
  replace H6 := Lib.hid (zab g1 H6.out)
  have HS1 : Hid (OwnsC W1 D pre.length (srcs js pre)) := HI.out.src.keep g1
  clear g1 c1 c2 HFr
  cases a
  ·
   gi_wp2
   refine ⟨KeepsFrom.of_grownBy (zbl HG1.out) (fun j e => by cases e), But.of_below (HG1.out.mono HSw.out) (by have := HSZ.out; omega), ⟨?_, HI.out.but.then HG1.out (by have := HSZ.out; omega) HSw.out⟩⟩
   rw [HSn.out, Bool.false_and, if_neg Bool.false_ne_true, List.append_nil, List.length_append]
   exact HS1.out.same (Nat.le_add_right _ _) (fun _ => Iff.rfl)
  ·
   have hw := yi3 x.s.epoch
   have c3 := (lk_v H6.out).te
   have c4 := (lk_v H6.out).se
   have c5 := (zaj HBS.out).1
   have c6 := (lk_v H6.out).s
   obtain ⟨B1, hB1⟩ : ∃ B, B = x.t.epoch.toNat := ⟨_, rfl⟩
   obtain ⟨B2, hB2⟩ : ∃ B, B = x.s.epoch.toNat := ⟨_, rfl⟩
   obtain ⟨B3, hB3⟩ : ∃ B, B = (x.s.epoch + 1).toNat := ⟨_, rfl⟩
   have t1 : ((B1 : Int) == (B3 : Int)) = E := by rw [HEe.out, hB1, hB3, Bool.eq_iff_iff, beq_iff_eq, decide_eq_true_iff]
   have t1' : (B1 == B3) = E := by rw [← t1, Bool.eq_iff_iff, beq_iff_eq, beq_iff_eq]; omega
   rw [← hB2, ← hB3] at hw
   rw [← hB1] at c3
   rw [← hB2] at c4
   clear hB1 hB2 hB3 HEe
   cases E
   ·
    gi_wp2
    refine ⟨KeepsFrom.of_grownBy (zbl HG1.out) (fun j e => by cases e), But.of_below (HG1.out.mono HSw.out) (by have := HSZ.out; omega), ⟨?_, HI.out.but.then HG1.out (by have := HSZ.out; omega) HSw.out⟩⟩
    rw [HSn.out, Bool.and_false, if_neg Bool.false_ne_true, List.append_nil, List.length_append]
    exact HS1.out.same (Nat.le_add_right _ _) (fun _ => Iff.rfl)
   ·
    have HPt := Lib.hid (zuy D pre.length (srcs js pre) x.s W1 HS1.out (by have := HLn.out; omega))
    gi_wp2
    refine ⟨trivial, (callsIn_wide.2 HPt.out).mono ?_⟩
    rintro e W2 ⟨⟨vv, rfl⟩, hown, hgr⟩
    have HO2 := Lib.hid hown
    have HGr := Lib.hid hgr
    clear hown hgr hw c3 c4 c5 c6 t1 t1'
    gi_wp2
    refine ⟨(KeepsFrom.of_grownBy (zbl HG1.out) (fun j e => by cases e)).trans (KeepsFrom.of_grownBy HGr.out (fun j e => by cases e; have := HSZ.out; omega)), (But.of_below (HG1.out.mono HSw.out) (by have := HSZ.out; omega)).map HGr.out (by have := HSZ.out; omega) (Nat.le_trans HSw.out HG1.out.size) (by have := HSZ.out; omega), ⟨?_, (HI.out.but.then HG1.out (by have := HSZ.out; omega) HSw.out).map HGr.out (by have := HSZ.out; omega) (Nat.le_trans HSw.out HG1.out.size) (by have := HSZ.out; omega)⟩⟩
    rw [HSn.out, Bool.true_and, if_pos rfl, List.length_append]
    exact HO2.out
 case done =>
  intro D' ys W hD' hys hI hK
  obtain rfl := hys
  have HBS : Hid (W.heap[bs]? = some (.cells #[.map (some D)] 188 (0, 0))) := hI.but.blk (by have := HSZ.out; omega) (by have := HSZ.out; omega) BS.out
  have HKD := Lib.hid hK
  have HDD : Hid (w.heap.size ≤ D') := by show _ ≤ _; have := HSZ.out; omega
  have HGw : Hid (Below w.heap.size w W) := G5.out.trans hI.but.below
  have HSo := Lib.hid hI.src
  obtain ⟨S, hS⟩ : ∃ S, S = srcs js ys := ⟨_, rfl⟩
  rw [← hS] at HSo HR
  obtain ⟨M, hM⟩ : ∃ M, M = ys.length := ⟨_, rfl⟩
  rw [← hM] at HSo
  clear hI hK hD' hS hM HSt HLe HLl
  have hHas := fun (c : Ck) (V : World) (g : Below W.heap.size W V) => zom D M S c V (HSo.out.keep g)
  have HHas := Lib.hid hHas
  clear hHas
  go_wp2_with fail
  go_loopw [12, 43] (fun v i wr => ∃ j : Nat, j ≤ n ∧ i = .int .i64 (j : Int) ∧ OwnE Ecc wr W.heap.size v ((js.take j).filter fun c => decide (c ∈ S)) ∧ Below W.heap.size W wr) (fun _ i _ => n - (intOf i).toNat)
  case atStart => exact ⟨0, Nat.zero_le _, rfl, zb3 _ _ _, Below.refl _ _⟩
  case round =>
   obtain ⟨j, hj, rfl, ho, hg⟩ := hrel
   have HO := Lib.hid ho
   have HG := Lib.hid hg
   clear ho hg
   by_cases hlt : j < n
   ·
    have i0 : (0 : Int) ≤ (j : Int) := by omega
    have i1 : (j : Int) < (n : Int) := by omega
    have d0 : decide ((j : Int) < (n : Int)) = true := decide_eq_true i1
    have d0' : decide (j < n) = true := decide_eq_true hlt
    have u1 : (j : Int) + 1 < 10000 := by have := HN.out; omega
    have HLT := Lib.hid hlt
    obtain ⟨b1, o1, rfl, q1, x1⟩ := zj4 (zad HGw.out K.out) (by have := HL.out; omega)
    have y1 := Go.Proofs.YtkalofboioffiaaGreat.keep HG.out (zpc x1 (i := j) (by have := HL.out; omega))
    have HTk : Hid ((js.take (j + 1)).filter (fun c => decide (c ∈ S)) = (js.take j).filter (fun c => decide (c ∈ S)) ++ (if decide (ckAt js j ∈ S) = true then [ckAt js j] else [])) := by
     show _ = _
     rw [List.take_add_one, List.getElem?_eq_getElem (by have := HL.out; omega), List.filter_append, zh8 (by have := HL.out; omega)]
     congr 1
     show List.filter _ [_] = _
     rw [List.filter_cons]
     rfl
    have HKl : Hid (((js.take j).filter (fun c => decide (c ∈ S))).length ≤ 2000) := by
     show _ ≤ _
     have := List.length_filter_le (fun c => decide (c ∈ S)) (js.take j)
     rw [List.length_take] at this
     have := HN.out
     omega
    generalize ckAt js j = C at *
    obtain ⟨k, hk⟩ : ∃ k, k = (js.take j).filter (fun c => decide (c ∈ S)) := ⟨_, rfl⟩
    rw [← hk] at HO HTk HKl
    have HFr := Lib.hid (HHas.out C)
    obtain ⟨a, ha⟩ : ∃ a, a = decide (C ∈ S) := ⟨_, rfl⟩
    rw [← ha] at HFr HTk
    clear x1 q1 hlt hj hk ha
    go_upto_region 11 with fail
    obtain ⟨V, hV⟩ : ∃ V, V = wr.alloc (.cells (cc C) 36) := ⟨_, rfl⟩
    rw [← hV]
    have g5 : Below wr.heap.size wr V := by rw [hV]; exact below1
    have X5 : Hid (V.heap[wr.heap.size]? = some (.cells (cc C) 36 (0, 0))) := by show _ = _; rw [hV]; exact heap_alloc_last wr _
    have HGV : Hid (Below W.heap.size W V) := zac HG.out g5
    have HOV : Hid (OwnE Ecc V W.heap.size _ k) := zam g5 HO.out
    obtain ⟨Q, hQ⟩ : ∃ Q, Q = wr.heap.size := ⟨_, rfl⟩
    rw [← hQ] at X5 ⊢
    clear hV y1 hQ g5 HG HO
    have c1 := (zaj (zab HGV.out HBS.out)).1
    have c2 := (ck_v X5.out).a
    go_wp2_with fail
    refine (HFr.out V HGV.out).mono ?_
    rintro e V1 ⟨rfl, g⟩
    replace HGV := Lib.hid (zac HGV.out g)
    replace HOV := Lib.hid (zam g HOV.out)
    replace X5 := Lib.hid (zab g X5.out)
    clear g c1 c2
    cases a
    ·
     go_wp2_with fail
     go_roundw
     case rel => exact ⟨j + 1, HLT.out, by go_num, by rw [HTk.out, if_neg Bool.false_ne_true, List.append_nil]; exact HOV.out, HGV.out⟩
     case measure => simp [intOf]; have := HLT.out; omega
    ·
     have c2 := (ck_v X5.out).a
     go_wp2_with (at_builtin; refine zbs Kcc _ rfl _ _ rfl W.heap.size _ k rfl (zba HOV.out _) _ [C] rfl (zj3 _ C _ rfl) (by have := HKl.out; simp; omega) (by have := HGV.out.size; simp; omega) ?_; intro v' V2 ho7 hg7)
     go_roundw
     case rel => exact ⟨j + 1, HLT.out, by go_num, by rw [HTk.out, if_pos trivial]; exact ho7, (zac HGV.out below1).trans (hg7.own (zba HOV.out _) (by have := HGV.out.size; simp; omega))⟩
     case measure => simp [intOf]; have := HLT.out; omega
   ·
    obtain rfl : j = n := by omega
    have d0 : decide ((j : Int) < (j : Int)) = false := decide_eq_false (Int.lt_irrefl _)
    have d0' : decide (j < j) = false := decide_eq_false (Nat.lt_irrefl _)
    rw [List.take_of_length_le (by rw [HL.out]; exact Nat.le_refl _), ← HR.out] at HO
    obtain ⟨pv, cv, rfl⟩ := zei HO.out
    have HKw : Hid (wr.heap[D']? = some (.deferred (some []))) := zab HG.out HKD.out
    have HGf : Hid (Below w.heap.size w wr) := zac HGw.out HG.out
    obtain ⟨rl, hrl⟩ : ∃ rl, rl = r.length := ⟨_, rfl⟩
    rw [← hrl] at HO ⊢
    clear hlt hrl
    go_wp2_with fail
    refine zhj (v := .slice pv rl cv) HKw.out ⟨by simp [results, Tryz.results160, go_sem], _, rfl, ?_, zdc HKw.out HGf.out HDD.out⟩
    exact zbf (z1h (B := 0) (fun _ : List Unit => Value.slice pv rl cv) (fun _ => r) [] _ _ _ HO.out (grownBy_putObj' wr D' _) (fun r e => by cases e; exact ⟨Nat.zero_le _, _, HKw.out, rfl⟩)) HGw.out.size
 case stop =>
  intro D c pre W _ _ h
  exact h.elim
theorem z69 (s : SlV) (u vb vj : Value) (l : List Nd) (ls : List Lk) (bal : List UInt64) (js : List Ck) (w : World) (h : SlE Ene w (sv s) l) (h1 : SlE Elk w u ls) (h2 : SlE Enum w vb bal) (h3 : SlE Ecc w vj js) (hm : ls.length ≤ 1000) (hn : js.length ≤ 2000) :
  Calls Tryz.prog 160 #[.agg (tr ⟨s⟩), u, vb, vj] w fun e w' => ∃ v, e = .returned v ∧ OwnE Ecc w' w.heap.size v (zcx l ls bal js) ∧ Below w.heap.size w w' := by
 have k := h3
 obtain ⟨p, cp, rfl, _⟩ := zar h3
 exact zyy s u vb p _ cp l ls bal js w h h1 h2 k rfl hn hm
theorem zmt : ∀ args w, (callFunc 160 args).run Tryz.prog w = .ok (.enter 160 args) w := zbe Tryz.func160 (by kernel_rfl) (by kernel_rfl)
end
theorem z3e (p : Option Addr) (n cap : Nat) (w : World) : (binOp .eql 32 (.slice p n cap) (.slice none 0 0)).run Tryz.prog w = .ok (.bool p.isNone) w := by
 have h := run_equalIn_slice_nil (P := Tryz.prog) w 9999 32 36 p n cap Tryz.underlying32
 simp [binOp, Op.equal, Op.maxDepth, h]
theorem yoq : zjp Tryz.prog Ecc 32 40 := ⟨Tryz.underlying32, .agg (cc zcc), yav, by show ((cc zcc)).size = _; exact za5 _⟩
def yov (l : List Ck) (w : World) (e : Ending) (w' : World) : Prop := ∃ v, e = .returned v ∧ OwnE Ecc w' w.heap.size v l ∧ Below w.heap.size w w'
theorem z9g (p : Option Addr) (n cap : Nat) (l : List Ck) (w : World) (h : SlE Ecc w (.slice p n cap) l) (hl : l.length = n) (hn : n * 40 ≤ 140737440355328) :
  Calls Tryz.prog 137 #[.slice p n cap] w (yov l w) := by
 have HS := Lib.hid h
 have HL := Lib.hid hl
 have HN := Lib.hid hn
 cases p with
 | none =>
  have hn0 : l = [] := by
   obtain ⟨p, cap', e, _, h⟩ := h
   injection e with e
   subst e
   exact h.resolve_right (fun ⟨_, _, e, _⟩ => by cases e)
  have e : n = 0 := by rw [← hl, hn0]; rfl
  subst hn0 e
  clear HS h hl hn
  have he : ∀ w, (binOp .eql 32 (.slice none 0 cap) (.slice none 0 0)).run Tryz.prog w = .ok (.bool true) w := fun w => z3e none 0 cap w
  go_enter Tryz.func137, Tryz.ntmps137
  go_wp2_with fail
  go_ret
  exact ⟨_, rfl, zb3 _ _ _, Below.refl _ _⟩
 | some a =>
  have HO : Hid (OwnE Ecc (w.alloc (.cells #[] 36)) w.heap.size (.slice (some ⟨w.heap.size, 0, none⟩) 0 0) []) := zjc (E := Ecc) w [] 0 rfl (by simp [maxLen]) #[] rfl _ rfl
  have HB : Hid (Below w.heap.size w (w.alloc (.cells #[] 36))) := below1
  clear h hl hn
  have he : ∀ w, (binOp .eql 32 (.slice (some a) n cap) (.slice none 0 0)).run Tryz.prog w = .ok (.bool false) w := fun w => z3e (some a) n cap w
  go_enter Tryz.func137, Tryz.ntmps137
  go_wp2_with (at_builtin; refine zc1 yoq _ rfl (.tmp 5) (.tmp 6) rfl w.heap.size _ [] rfl HO.out _ l rfl (zad HB.out HS.out) (by have := HL.out; have := HN.out; simp [maxLen]; omega) (by have := HL.out; have := HN.out; simp; omega) (by simp) ?_; intro v2 w2 ho2 hg2)
  go_ret
  exact ⟨_, rfl, by simpa using ho2, HB.out.trans (hg2.own HO.out (by simp))⟩
theorem z9f (v : Value) (l : List Ck) (w : World) (h : SlE Ecc w v l) (hn : l.length * 40 ≤ 140737440355328) :
  Calls Tryz.prog 137 #[v] w (yov l w) := by
 have k := h
 obtain ⟨p, cl, rfl, _⟩ := zar h
 exact z9g p _ cl l w k rfl hn
end Go.Proofs.YtkalofboioffiaaGreat
