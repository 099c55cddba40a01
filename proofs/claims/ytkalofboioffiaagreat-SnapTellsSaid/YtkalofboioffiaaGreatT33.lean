import Derived.Test.YtkalofboioffiaaGreatT32
namespace Go.Proofs.YtkalofboioffiaaGreat
open Go.RowKit
set_option maxRecDepth 200000
set_option maxHeartbeats 64000000
section
open Go.Maps
theorem zk3 : ∀ l, Maps.size (setC l) ≤ l.length
 | [] => Nat.le_refl _
 | c :: l => by
  have ih := zk3 l
  unfold setC
  rw [size_put (zjo l), List.length_cons]
  split <;> omega
theorem zux : ∀ l, Maps.size (setC l) = l.length ↔ l.Nodup
 | [] => ⟨fun _ => List.nodup_nil, fun _ => rfl⟩
 | c :: l => by
  have ih := zux l
  have hle := zk3 l
  unfold setC
  rw [size_put (zjo l), zlz, List.length_cons, List.nodup_cons]
  by_cases e : c ∈ l
  ·
   rw [decide_eq_true e, if_pos rfl]
   exact ⟨fun h => by omega, fun h => absurd e h.1⟩
  ·
   rw [decide_eq_false e, if_neg (by decide)]
   exact ⟨fun h => ⟨e, ih.1 (by omega)⟩, fun h => by rw [ih.2 h.2]⟩
def mC (l : List Ck) (k : Nat) : DataW Unit := setC (l.take k).reverse
theorem yf9 {l : List Ck} {k : Nat} (h : k < l.length) : mC l (k + 1) = (mC l k).put (ck (ckAt l k)) (.agg []) := by
 unfold mC
 rw [List.take_succ_eq_append_getElem h, List.reverse_append, zcv h]
 rfl
theorem yjc (l : List Ck) (c : Ck) : Maps.has (mC l l.length) (ck c) = decide (c ∈ l) := by
 unfold mC
 rw [zlz, List.take_length]
 exact decide_eq_decide.2 List.mem_reverse
theorem z6l (l : List Ck) : l.reverse.Nodup ↔ l.Nodup := by
 rw [List.nodup_iff_pairwise_ne, List.nodup_iff_pairwise_ne, List.pairwise_reverse]
 exact ⟨fun h => h.imp Ne.symm, fun h => h.imp Ne.symm⟩
theorem yf8 (l : List Ck) : decide (Maps.size (mC l l.length) = l.length) = decide l.Nodup := by
 have := zux (l.take l.length).reverse
 rw [List.take_length, List.length_reverse, z6l] at this
 unfold mC
 rw [List.take_length]
 exact decide_eq_decide.2 this
theorem zuu {P : Program} {T k e : TypeId} (hu : P.underlying T = some (.map k e)) (n : Int) (w : World) : (Instr.makeMap T (some (.int .i64 n))).run P w = .ok (.map (some w.heap.size)) (w.alloc (.map #[] 0)) := by
 simp only [Instr.makeMap]
 simp [run_underlying hu, asInt]
 rfl
theorem ztd {a w w' : World} {B : Nat} {row : Option Nat} (h : Below B a w) (hB : B ≤ w.heap.size) (k : w.grownBy w' row) (hr : ∀ b, row = some b → B ≤ b) : Below B a w' := h.grown k hB hr
theorem z15 (x : En) (g : Eg) (n : Nat) (w : World) (h : LaidG w x g) (sg : zep g) (hl : g.j.length = n) :
  Calls Tryz.prog 46 #[.agg (en x)] w fun e w' => e = .returned (.bool (zg1 g)) ∧ Below w.heap.size w w' := by
 obtain ⟨W0, hW0⟩ : ∃ W0, W0 = w.alloc (.cells (en x) 38) := ⟨_, rfl⟩
 have A : Hid (Gv w W0 w.heap.size x g) := by show Gv _ _ _ _ _; rw [hW0]; exact zi0 h
 have HW := Lib.hid hW0
 have HL := Lib.hid hl
 have HN : Hid (n ≤ 1000) := by show n ≤ 1000; rw [← hl]; exact sg.j
 obtain ⟨⟨pj, nj, cj⟩, hsj⟩ : ∃ s : SlV, s = x.j := ⟨_, rfl⟩
 have hnj : n = nj := by
  obtain ⟨p', c', e, _⟩ := zal h.j
  rw [← hsj] at e
  unfold sv at e; injection e with _ e
  rw [← hl]; exact e.symm
 subst hnj
 have HSj := Lib.hid hsj
 have HK : Hid (SlE Ecc w (.slice pj n cj) g.j) := by have := h.j; rw [← hsj] at this; exact this
 have HD := Lib.hid (fun W (l : LaidG W x g) => ybz x g W l sg)
 obtain ⟨b1, hb1⟩ : ∃ b, b = decide (g.fin ∈ g.j) := ⟨_, rfl⟩
 obtain ⟨b2, hb2⟩ : ∃ b, b = decide g.j.Nodup := ⟨_, rfl⟩
 obtain ⟨b3, hb3⟩ : ∃ b, b = zvx g := ⟨_, rfl⟩
 have HF : Hid (zg1 g = ((b1 && b2) && b3)) := by
  show _ = _
  unfold zg1
  rw [hb1, hb2, hb3]
 rw [← hb3] at HD
 have HB1 : Hid (Maps.has (mC g.j n) (ck g.fin) = b1) := by show _ = _; rw [hb1, ← hl]; exact yjc _ _
 have HB2 : Hid (decide (Maps.size (mC g.j n) = n) = b2) := by show _ = _; rw [hb2, ← hl]; exact yf8 _
 obtain ⟨r, hr⟩ : ∃ r, r = zg1 g := ⟨_, rfl⟩
 rw [← hr] at HF ⊢
 clear hW0 h sg hl hb1 hb2 hb3 hr hsj
 have y0 : W0.cell? ⟨w.heap.size, 7, none⟩ = some (.slice pj n cj) := by rw [← za0, HSj.out]; exact A.out.zj
 have mk := fun (i : Int) (W : World) => zuu (P := Tryz.prog) Tryz.underlying134 i W
 go_enter Tryz.func46, Tryz.ntmps46
 go_upto_region 1 with fail
 rw [← HW.out]
 go_upto_region 2 with fail
 obtain ⟨W1, hW1⟩ : ∃ W1, W1 = W0.alloc (.map #[] 0) := ⟨_, rfl⟩
 rw [← hW1]
 have g1 : Below W0.heap.size W0 W1 := by rw [hW1]; exact below1
 have HO1 : Hid (W1.ownsMap Tryz.prog 36 (unitElem (H := Unit)) W0.heap.size 0 (mC g.j 0)) := by show World.ownsMap _ _ _ _ _ _ _; rw [hW1]; exact World.ownsMap_made _ _ _ _
 have HZ1 : Hid (W0.heap.size + 1 ≤ W1.heap.size) := by show _ ≤ _; rw [hW1]; simp
 have G1 := Lib.hid g1
 have A1 := Lib.hid (A.out.keep g1)
 obtain ⟨B, hB⟩ : ∃ B, B = W0.heap.size := ⟨_, rfl⟩
 have HBd := Lib.hid hB
 rw [← hB] at HO1 HZ1 G1 ⊢
 clear hW1 g1 y0 hB mk
 have y0 : W1.cell? ⟨w.heap.size, 7, none⟩ = some (.slice pj n cj) := by rw [← za0, HSj.out]; exact A1.out.zj
 go_wp2_with fail
 clear y0
 go_loopw [15] (fun i wr => ∃ k : Nat, k ≤ n ∧ i = .int .i64 (k : Int) ∧ wr.ownsMap Tryz.prog 36 (unitElem (H := Unit)) B k (mC g.j k) ∧ Below B W0 wr ∧ B + 1 ≤ wr.heap.size) (fun i _ => n - (intOf i).toNat)
 case atStart => exact ⟨0, Nat.zero_le _, rfl, HO1.out, G1.out, HZ1.out⟩
 case round =>
  obtain ⟨k, hk, rfl, ho, hb, hz⟩ := hrel
  have HO := Lib.hid ho
  have HG := Lib.hid hb
  have HZ := Lib.hid hz
  clear ho hb hz
  have A2 : Hid (Gv w wr w.heap.size x g) := by
   have := HG.out
   rw [HBd.out] at this
   exact A.out.keep this
  by_cases hlt : k < n
  ·
   have HKl := Lib.hid hlt
   have i0 : (0 : Int) ≤ (k : Int) := by omega
   have i1 : (k : Int) < (n : Int) := by omega
   have u1 : (k : Int) + 1 < 10000 := by have := HN.out; omega
   have HS2 := zad A2.out.g HK.out
   obtain ⟨bq, oq, rfl, q1, x1⟩ := zdq HS2 (by rw [HL.out]; omega)
   have y1 := zgi x1 (i := k) (by rw [HL.out]; exact hlt)
   have HTk := Lib.hid (yf9 (l := g.j) (k := k) (by rw [HL.out]; exact hlt))
   obtain ⟨m, hm⟩ : ∃ m, m = ckAt g.j k := ⟨_, rfl⟩
   rw [← hm] at y1 HTk
   clear hlt HS2 q1 x1 hm
   go_upto_region 5 with fail
   obtain ⟨V, hV⟩ : ∃ V, V = wr.alloc (.cells (cc m) 36) := ⟨_, rfl⟩
   rw [← hV]
   have g5 : Below wr.heap.size wr V := by rw [hV]; exact below1
   have z1 := zar (show V.heap[wr.heap.size]? = some (.cells (cc m) 36 (0, 0)) from by rw [hV]; exact heap_alloc_last wr _) (zax m)
   have HO2 := Lib.hid (zct g5 HO.out)
   have HG2 : Hid (Below B W0 V) := HG.out.trans (g5.mono (by have := HZ.out; omega))
   have HZ2 : Hid (B + 1 ≤ V.heap.size) := Nat.le_trans HZ.out g5.size
   clear hV g5 y1
   go_wp2_with (at_mapUpdate; refine wpList_mapUpdate_own _ rfl _ _ _ 134 rfl 36 135 keyed_cc Tryz.underlying134 (unitElem (H := Unit)) B k _ rfl HO2.out (by unfold maxLen; have := HN.out; have := HKl.out; omega) _ _ _ rfl rfl (zi3 m) _ [] unitElem_mk ?_; intro w4 hown1 hgrow1)
   clear z1
   have HO4 : Hid (w4.ownsMap Tryz.prog 36 (unitElem (H := Unit)) B (k + 1) (mC g.j (k + 1))) := by show World.ownsMap _ _ _ _ _ _ _; rw [HTk.out]; exact hown1
   have HG4 : Hid (Below B W0 w4) := ztd HG2.out (by have := HZ2.out; omega) hgrow1 (fun b hb => by injection hb with hb; omega)
   have HZ4 : Hid (B + 1 ≤ w4.heap.size) := Nat.le_trans HZ2.out hgrow1.size
   clear hown1 hgrow1
   go_roundw
   case rel => exact ⟨k + 1, HKl.out, by go_num, HO4.out, HG4.out, HZ4.out⟩
   case measure => simp [intOf]; have := HKl.out; omega
  ·
   obtain rfl : k = n := by omega
   clear hlt
   obtain ⟨D, hD⟩ : ∃ D, D = mC g.j k := ⟨_, rfl⟩
   rw [← hD] at HO HB1 HB2
   have z1 := A2.out.zf
   have HZd : Hid (∃ z, z = Maps.size D) := ⟨_, rfl⟩
   clear hD
   cases b1
   ·
    have t1 : Maps.has D (ck g.fin) = false := HB1.out
    go_wp2_with (at_lookup; refine wpList_lookup_own_unit _ rfl _ _ 134 rfl 36 135 keyed_cc Tryz.underlying134 (zjz _) B k D rfl HO.out _ _ rfl (zi3 g.fin) ?_)
    go_ret
    exact ⟨by rw [HF.out]; first | done | rfl, zab A2.out.g below1⟩
   ·
    have t1 : Maps.has D (ck g.fin) = true := HB1.out
    obtain ⟨z, hz⟩ := HZd.out
    have Le : ∀ ty, (Builtin.len_ #[134] ty #[.map (some B)]).run Tryz.prog (wr.alloc (.cells #[] 135)) = .ok (.int .i64 (z : Int)) (wr.alloc (.cells #[] 135)) := fun ty => by rw [hz]; exact (HO.out.alloc _).len Tryz.underlying134 ty
    have t2 : ((z : Int) == (k : Int)) = b2 := by rw [← HB2.out, ← hz, Bool.eq_iff_iff, beq_iff_eq, decide_eq_true_iff]; omega
    have t2' : decide (z = k) = b2 := by rw [← HB2.out, ← hz]
    have A3 : Hid (Gv w (wr.alloc (.cells #[] 135)) w.heap.size x g) := A2.out.keep below1
    have y3 : (wr.alloc (.cells #[] 135)).cell? ⟨w.heap.size, 7, none⟩ = some (.slice pj k cj) := by rw [← za0, HSj.out]; exact A3.out.zj
    have y4 := A3.out.z
    clear hz HZd
    cases b2
    ·
     go_wp2_with (at_lookup; refine wpList_lookup_own_unit _ rfl _ _ 134 rfl 36 135 keyed_cc Tryz.underlying134 (zjz _) B k D rfl HO.out _ _ rfl (zi3 g.fin) ?_)
     go_ret
     exact ⟨by rw [HF.out]; first | done | rfl, A3.out.g⟩
    ·
     go_wp2_with (at_lookup; refine wpList_lookup_own_unit _ rfl _ _ 134 rfl 36 135 keyed_cc Tryz.underlying134 (zjz _) B k D rfl HO.out _ _ rfl (zi3 g.fin) ?_)
     refine (HD.out _ A3.out.l).mono ?_
     rintro e w5 ⟨rfl, gg⟩
     have G5 := Lib.hid (zab A3.out.g gg)
     clear gg y3 y4 z1 Le
     go_wp2_with fail
     go_ret
     exact ⟨by rw [HF.out]; first | done | rfl, G5.out⟩
theorem yb0 (x : En) (g : Eg) (w : World) (h : LaidG w x g) (sg : zep g) :
  Calls Tryz.prog 46 #[.agg (en x)] w fun e w' => e = .returned (.bool (zg1 g)) ∧ Below w.heap.size w w' := z15 x g _ w h sg rfl
end
theorem zkv (z c : Array Value) (o : Nat) (h : o + c.size ≤ z.size) (j : Nat) : (c.zipIdx.foldl (fun cs (p : Value × Nat) => cs.setIfInBounds (o + p.2) p.1) z)[j]? = if o ≤ j ∧ j < o + c.size then c[j - o]? else z[j]? := by
 have e : c.zipIdx.foldl (fun cs (p : Value × Nat) => cs.setIfInBounds (o + p.2) p.1) z = ((c.toList.zipIdx o).foldl (fun c p => c.setIfInBounds p.2 p.1) z) := by
  rw [← Array.foldl_toList, Array.toList_zipIdx, List.zipIdx_eq_map_add (l := c.toList) (i := o), List.foldl_map]
 rw [e, zgw]
 by_cases hj : o ≤ j ∧ j < o + c.size
 ·
  rw [if_pos (by simp; omega), if_pos hj]; simp
 ·
  rw [if_neg (by simp; omega), if_neg hj]
theorem zpt (c : Array Value) (o : Nat) (z : Array Value) : (c.zipIdx.foldl (fun cs (p : Value × Nat) => cs.setIfInBounds (o + p.2) p.1) z).size = z.size := by
 rw [← Array.foldl_toList]
 generalize c.zipIdx.toList = l
 induction l generalizing z with
 | nil => rfl
 | cons a l ih => rw [List.foldl_cons, ih]; simp
theorem ylq (n : Nat) (z c d : Array Value) (hz : z.size = 2 * n) (hc : c.size = n) (hd : d.size = n) :
  d.zipIdx.foldl (fun cs (p : Value × Nat) => cs.setIfInBounds (n + p.2) p.1) (c.zipIdx.foldl (fun cs (p : Value × Nat) => cs.setIfInBounds (0 + p.2) p.1) z) = c ++ d := by
 apply Array.ext_getElem?
 intro j
 rw [zkv _ d n (by rw [zpt]; omega), zkv _ c 0 (by omega), Array.getElem?_append]
 by_cases h1 : n ≤ j ∧ j < n + d.size
 ·
  rw [if_pos h1, if_neg (by omega), hc]
 ·
  rw [if_neg h1]
  by_cases h2 : j < c.size
  ·
   rw [if_pos (by omega), if_pos h2, Nat.sub_zero]
  ·
   rw [if_neg (by omega), if_neg h2, Array.getElem?_eq_none (by omega), Array.getElem?_eq_none (by omega)]
theorem z6x {x : Value} {n : Nat} (hx : okA n x = true) : ∃ c, x = .agg c ∧ c.size = n := by
 unfold okA at hx
 split at hx
 ·
  rename_i c
  rw [Bool.and_eq_true, beq_iff_eq] at hx
  exact ⟨c, rfl, hx.1⟩
 ·
  cases hx
@[go_sem ↓] theorem z86 (ρ : Operand → Value) (dst : Option Tmp) (x y : Operand) (ty : TypeId) (pos : String) (after : Array Edge) (guard : Option (Nat × Bool)) (w : World) (hx : okA 32 (ρ x) = true) (hy : okA 32 (ρ y) = true) :
  (execOp ρ { dst, op := .buildSlice 130 2 #[(0, x), (1, y)], type := ty, pos, after, guard }).run Tryz.prog w = .ok (.value (.slice (some ⟨w.heap.size, 0, none⟩) 2 2)) (w.alloc (.cells (ze4 (ρ x) ++ ze4 (ρ y)) 34)) := by
 obtain ⟨c, hc, hn⟩ := z6x hx
 obtain ⟨d, hd, hm⟩ := z6x hy
 have hp : (2 * 32 > 2 ^ 24) = False := by simp
 have h0 : (2 * 32 = 0) = False := by simp
 unfold execOp
 simp only [Instr.buildSlice, Sem.run_bind, run_underlying Tryz.underlying130, Result.andThen_ok, Tryz.sizeOf34, hp, h0, if_false, zj0, Value.cells]
 simp only [List.map_toArray, List.map_cons, List.map_nil, hc, hd, Instr.fill, Value.cells, hn, hm]
 simp only [Sem.run_pure, Result.andThen_ok]
 generalize hz : (Array.range (2 * 32)).map (fun x => (rc zr)[x % (rc zr).size]!) = z
 have hzs : z.size = 2 * 32 := by rw [← hz]; simp
 have h1 := zpt c 0 z
 have h2 := ylq 32 z c d hzs hn hm
 simp only [Nat.zero_mul, Nat.one_mul, h1, h2, hzs]
 simp [ze4]
 rfl
theorem ygu (w : World) (x y : Rt) (b : Nat) (hb : b = w.heap.size) : SlE Ert (w.alloc (.cells (rc x ++ rc y) 34)) (.slice (some ⟨b, 0, none⟩) 2 2) [x, y] :=
 zdu w _ 2 _ _ b rfl hb (by simp [zaq, Ert])
theorem z26 {l : List Lt} {k : Nat} (h : k < l.length) : zd1 (l.take (k + 1)) = if (lat l k).has = true then zd1 (l.take k) ++ [(lat l k).root] else zd1 (l.take k) := by
 unfold zd1
 rw [List.take_succ_eq_append_getElem h, List.filter_append, zrb h]
 by_cases e : l[k].has = true
 ·
  rw [if_pos e]; simp [e]
 ·
  rw [if_neg e]; simp [e]
theorem zjr (l : List Lt) : (zd1 l).length ≤ l.length := by unfold zd1; rw [List.length_map]; exact List.length_filter_le _ _
theorem z25 {l : List Lk} {k : Nat} (h : k < l.length) : zg9 (l.take (k + 1)) = zg9 (l.take k) ++ [(lkAt l k).s.root, (lkAt l k).t.root] := by
 unfold zg9
 rw [List.take_succ_eq_append_getElem h, List.flatMap_append, zd6 h]
 simp
theorem zof (l : List Lk) : (zg9 l).length = 2 * l.length := by
 unfold zg9
 induction l with
 | nil => rfl
 | cons a l ih => rw [List.flatMap_cons, List.length_append, ih, List.length_cons]; simp; omega
theorem z24 {l : List Ck} {k : Nat} (h : k < l.length) : (l.take (k + 1)).map Ck.root = (l.take k).map Ck.root ++ [(ckAt l k).root] := by
 rw [List.take_succ_eq_append_getElem h, List.map_append, zcv h]
 rfl
theorem zu3 {g : Eg} (h : zep g) : (zsh g).length ≤ 4000 := by
 unfold zsh
 rw [List.length_append, List.length_append, zof, List.length_map]
 have := zjr g.v.l
 have := h.v; have := h.k; have := h.j
 omega
theorem zrz (x : En) (g : Eg) (w : World) (h : LaidG w x g) (sg : zep g) :
  Calls Tryz.prog 91 #[.agg (en x)] w (yee (zsh g) w) := by
 obtain ⟨W0, hW0⟩ : ∃ W0, W0 = w.alloc (.cells (en x) 38) := ⟨_, rfl⟩
 have A0 : Hid (Gv w W0 w.heap.size x g) := by show Gv _ _ _ _ _; rw [hW0]; exact zi0 h
 have HB : Hid (Below w.heap.size w W0) := A0.out.g
 have HW := Lib.hid hW0
 have HSg := Lib.hid sg
 have HRl := Lib.hid (zu3 sg)
 obtain ⟨⟨p1, n1, c1⟩, hs1⟩ : ∃ s : SlV, s = x.v.l := ⟨_, rfl⟩
 have HS1 := Lib.hid hs1
 obtain ⟨⟨p2, n2, c2⟩, hs2⟩ : ∃ s : SlV, s = x.k := ⟨_, rfl⟩
 have HS2 := Lib.hid hs2
 obtain ⟨⟨p3, n3, c3⟩, hs3⟩ : ∃ s : SlV, s = x.j := ⟨_, rfl⟩
 have HS3 := Lib.hid hs3
 have HL1 : Hid (SlE Elt w (.slice p1 n1 c1) g.v.l) := by have := h.v; rw [← hs1] at this; exact this
 have HL2 : Hid (SlE Elk w (.slice p2 n2 c2) g.k) := by have := h.k; rw [← hs2] at this; exact this
 have HL3 : Hid (SlE Ecc w (.slice p3 n3 c3) g.j) := by have := h.j; rw [← hs3] at this; exact this
 have HN1 : Hid (g.v.l.length = n1) := by
  obtain ⟨p', c', e, _⟩ := zal HL1.out
  injection e with _ e; exact e.symm
 have HN2 : Hid (g.k.length = n2) := by
  obtain ⟨p', c', e, _⟩ := zal HL2.out
  injection e with _ e; exact e.symm
 have HN3 : Hid (g.j.length = n3) := by
  obtain ⟨p', c', e, _⟩ := zal HL3.out
  injection e with _ e; exact e.symm
 clear hW0 h sg hs1 hs2 hs3
 go_enter Tryz.func91, Tryz.ntmps91
 go_upto_region 1 with fail
 rw [← HW.out]
 have y0 := A0.out.zv
 rw [← HS1.out, za0] at y0
 go_wp2_with fail
 clear y0
 go_loopw [3, 14] (fun kv i wr => ∃ k : Nat, k ≤ n1 ∧ i = .int .i64 (k : Int) ∧ OwnE Ert wr W0.heap.size kv (zd1 (g.v.l.take k)) ∧ Below W0.heap.size W0 wr) (fun _ i _ => n1 - (intOf i).toNat)
 case atStart => exact ⟨0, Nat.zero_le _, rfl, za8 _ _ _, Below.refl _ _⟩
 case round =>
  obtain ⟨k, hk, rfl, ho, hb⟩ := hrel
  have HO := Lib.hid ho
  have HG := Lib.hid hb
  clear ho hb
  by_cases hlt : k < n1
  ·
   have HK := Lib.hid hlt
   have i0 : (0 : Int) ≤ (k : Int) := by omega
   have i1 : (k : Int) < (n1 : Int) := by omega
   have u1 : (k : Int) + 1 < 10000 := by have := HN1.out; have := HSg.out.v; omega
   obtain ⟨b1, o1, rfl, q1, x1⟩ := zf5 (zad (zab HB.out HG.out) HL1.out) (by rw [HN1.out]; omega)
   have y1 := znf x1 (i := k) (by rw [HN1.out]; exact hlt)
   have HTk := Lib.hid (z26 (l := g.v.l) (k := k) (by rw [HN1.out]; exact hlt))
   have HLk : Hid ((zd1 (g.v.l.take k)).length ≤ 1000) := by show _ ≤ _; have := zjr (g.v.l.take k); rw [List.length_take] at this; have := HN1.out; have := HSg.out.v; omega
   obtain ⟨m, hm⟩ : ∃ m, m = lat g.v.l k := ⟨_, rfl⟩
   rw [← hm] at y1 HTk
   clear hlt q1 x1 hm
   go_upto_region 5 with fail
   obtain ⟨V, hV⟩ : ∃ V, V = wr.alloc (.cells (lt m) 115) := ⟨_, rfl⟩
   rw [← hV]
   have g5 : Below wr.heap.size wr V := by rw [hV]; exact below1
   have hV0 : V.heap[wr.heap.size]? = some (.cells (lt m) 115 (0, 0)) := by rw [hV]; exact heap_alloc_last wr _
   have z1 := znl hV0
   have z2 := zp5 hV0
   have HO1 := Lib.hid (za5 g5 HO.out)
   have HG1 : Hid (Below W0.heap.size W0 V) := zab HG.out g5
   obtain ⟨hs, hhs⟩ : ∃ b, b = m.has := ⟨_, rfl⟩
   rw [← hhs] at z2 HTk
   clear hV g5 y1 hV0 hhs
   cases hs
   ·
    have HE : Hid (zd1 (g.v.l.take (k + 1)) = zd1 (g.v.l.take k)) := by show _ = _; rw [HTk.out]; exact if_neg (by decide)
    go_wp2_with fail
    clear z1 z2
    go_roundw
    case rel => exact ⟨k + 1, HK.out, by go_num, by rw [HE.out]; exact HO1.out, HG1.out⟩
    case measure => simp [intOf]; have := HK.out; omega
   ·
    have HE : Hid (zd1 (g.v.l.take (k + 1)) = zd1 (g.v.l.take k) ++ [m.root]) := by show _ = _; rw [HTk.out]; exact if_pos rfl
    go_wp2_with (at_builtin; refine za1 Krt _ rfl _ (.tmp 23) rfl W0.heap.size _ (zd1 (g.v.l.take k)) rfl (zaw HO1.out _) _ [m.root] rfl (zxj _ _ _ rfl) (by have := HLk.out; simp; omega) (by have := HG1.out.size; simp; omega) ?_; intro v2 w2 ho2 hg2; have HO2 : Hid (OwnE Ert w2 W0.heap.size v2 (zd1 (g.v.l.take (k + 1)))) := (by show OwnE _ _ _ _ _; rw [HE.out]; exact ho2); have HB2 : Hid (Below W0.heap.size W0 w2) := HG1.out.trans ((Gr.alloc hg2).own HO1.out HG1.out.size); clear ho2 hg2)
    clear z1 z2
    go_roundw
    case rel => exact ⟨k + 1, HK.out, by go_num, HO2.out, HB2.out⟩
    case measure => simp [intOf]; have := HK.out; omega
  ·
   obtain rfl : k = n1 := by omega
   clear hlt
   have HO2 : Hid (OwnE Ert wr W0.heap.size u3 (zd1 g.v.l)) := by
    have := HO.out
    rw [← HN1.out, List.take_length] at this
    exact this
   obtain ⟨w1, hw1⟩ : ∃ w1, w1 = wr := ⟨_, rfl⟩
   rw [← hw1] at HO2 HG ⊢
   have A1 := Lib.hid (A0.out.keep HG.out)
   clear hw1 HO
   have y0 := A1.out.zk
   rw [← HS2.out, za0] at y0
   go_wp2_with fail
   clear y0
   go_loopw [3, 29] (fun kv i wr => ∃ k : Nat, k ≤ n2 ∧ i = .int .i64 (k : Int) ∧ OwnE Ert wr W0.heap.size kv (zd1 g.v.l ++ zg9 (g.k.take k)) ∧ Below W0.heap.size W0 wr) (fun _ i _ => n2 - (intOf i).toNat)
   case atStart => exact ⟨0, Nat.zero_le _, rfl, by rw [show zg9 (g.k.take 0) = [] from rfl, List.append_nil]; exact HO2.out, HG.out⟩
   case round =>
    obtain ⟨q, hq, rfl, ho, hb⟩ := hrel
    replace HO := Lib.hid ho
    replace HG := Lib.hid hb
    clear ho hb HO2
    by_cases hlt : q < n2
    ·
     have HK := Lib.hid hlt
     have i0 : (0 : Int) ≤ (q : Int) := by omega
     have i1 : (q : Int) < (n2 : Int) := by omega
     have u1 : (q : Int) + 1 < 10000 := by have := HN2.out; have := HSg.out.k; omega
     obtain ⟨b1, o1, rfl, q1, x1⟩ := zes (zad (zab HB.out HG.out) HL2.out) (by rw [HN2.out]; omega)
     have y1 := zi9 x1 (i := q) (by rw [HN2.out]; exact hlt)
     have HTk := Lib.hid (z25 (l := g.k) (k := q) (by rw [HN2.out]; exact hlt))
     have HLk : Hid ((zd1 g.v.l ++ zg9 (g.k.take q)).length ≤ 4000) := by show _ ≤ _; rw [List.length_append, zof, List.length_take]; have := zjr g.v.l; have := HN2.out; have := HSg.out.v; have := HSg.out.k; omega
     obtain ⟨m, hm⟩ : ∃ m, m = lkAt g.k q := ⟨_, rfl⟩
     rw [← hm] at y1 HTk
     clear hlt q1 x1 hm
     go_upto_region 11 with fail
     obtain ⟨V, hV⟩ : ∃ V, V = wr.alloc (.cells (lk m) 118) := ⟨_, rfl⟩
     rw [← hV]
     have g5 : Below wr.heap.size wr V := by rw [hV]; exact below1
     have hV0 : V.heap[wr.heap.size]? = some (.cells (lk m) 118 (0, 0)) := by rw [hV]; exact heap_alloc_last wr _
     have z1 := zrf hV0
     have z2 := zrg hV0
     have HO1 := Lib.hid (za5 g5 HO.out)
     have HG1 : Hid (Below W0.heap.size W0 V) := zab HG.out g5
     clear hV g5 y1 hV0
     go_wp2_with (at_builtin; refine za1 Krt _ rfl _ (.tmp 40) rfl W0.heap.size _ (zd1 g.v.l ++ zg9 (g.k.take q)) rfl (zaw HO1.out _) _ [m.s.root, m.t.root] rfl (ygu _ _ _ _ rfl) (by have := HLk.out; simp only [List.length_cons, List.length_nil]; omega) (by have := HG1.out.size; simp; omega) ?_; intro v2 w2 ho2 hg2; have HO2 : Hid (OwnE Ert w2 W0.heap.size v2 (zd1 g.v.l ++ zg9 (g.k.take (q + 1)))) := (by show OwnE _ _ _ _ _; rw [HTk.out, ← List.append_assoc]; exact ho2); have HB2 : Hid (Below W0.heap.size W0 w2) := HG1.out.trans ((Gr.alloc hg2).own HO1.out HG1.out.size); clear ho2 hg2)
     clear z1 z2
     go_roundw
     case rel => exact ⟨q + 1, HK.out, by go_num, HO2.out, HB2.out⟩
     case measure => simp [intOf]; have := HK.out; omega
    ·
     obtain rfl : q = n2 := by omega
     clear hlt
     have HO2 : Hid (OwnE Ert wr W0.heap.size u3 (zd1 g.v.l ++ zg9 g.k)) := by
      have := HO.out
      rw [← HN2.out, List.take_length] at this
      exact this
     obtain ⟨w2, hw2⟩ : ∃ w2, w2 = wr := ⟨_, rfl⟩
     rw [← hw2] at HO2 HG ⊢
     have A2 := Lib.hid (A0.out.keep HG.out)
     clear hw2 HO A1
     have y0 := A2.out.zj
     rw [← HS3.out, za0] at y0
     go_wp2_with fail
     clear y0
     go_loopw [3, 46] (fun kv i wr => ∃ k : Nat, k ≤ n3 ∧ i = .int .i64 (k : Int) ∧ OwnE Ert wr W0.heap.size kv (zd1 g.v.l ++ zg9 g.k ++ (g.j.take k).map Ck.root) ∧ Below W0.heap.size W0 wr) (fun _ i _ => n3 - (intOf i).toNat)
     case atStart => exact ⟨0, Nat.zero_le _, rfl, by rw [show (g.j.take 0).map Ck.root = [] from rfl, List.append_nil]; exact HO2.out, HG.out⟩
     case round =>
      obtain ⟨r, hr, rfl, ho, hb⟩ := hrel
      replace HO := Lib.hid ho
      replace HG := Lib.hid hb
      clear ho hb HO2
      by_cases hlt : r < n3
      ·
       have HK := Lib.hid hlt
       have i0 : (0 : Int) ≤ (r : Int) := by omega
       have i1 : (r : Int) < (n3 : Int) := by omega
       have u1 : (r : Int) + 1 < 10000 := by have := HN3.out; have := HSg.out.j; omega
       obtain ⟨b1, o1, rfl, q1, x1⟩ := zdq (zad (zab HB.out HG.out) HL3.out) (by rw [HN3.out]; omega)
       have y1 := zgi x1 (i := r) (by rw [HN3.out]; exact hlt)
       have HTk := Lib.hid (z24 (l := g.j) (k := r) (by rw [HN3.out]; exact hlt))
       have HLk : Hid ((zd1 g.v.l ++ zg9 g.k ++ (g.j.take r).map Ck.root).length ≤ 4000) := by show _ ≤ _; rw [List.length_append, List.length_append, zof, List.length_map, List.length_take]; have := zjr g.v.l; have := HN3.out; have := HSg.out.v; have := HSg.out.k; have := HSg.out.j; omega
       obtain ⟨m, hm⟩ : ∃ m, m = ckAt g.j r := ⟨_, rfl⟩
       rw [← hm] at y1 HTk
       clear hlt q1 x1 hm
       go_upto_region 16 with fail
       obtain ⟨V, hV⟩ : ∃ V, V = wr.alloc (.cells (cc m) 36) := ⟨_, rfl⟩
       rw [← hV]
       have g5 : Below wr.heap.size wr V := by rw [hV]; exact below1
       have hV0 : V.heap[wr.heap.size]? = some (.cells (cc m) 36 (0, 0)) := by rw [hV]; exact heap_alloc_last wr _
       have z1 := zb0 hV0
       have HO1 := Lib.hid (za5 g5 HO.out)
       have HG1 : Hid (Below W0.heap.size W0 V) := zab HG.out g5
       clear hV g5 y1 hV0
       go_wp2_with (at_builtin; refine za1 Krt _ rfl _ (.tmp 53) rfl W0.heap.size _ (zd1 g.v.l ++ zg9 g.k ++ (g.j.take r).map Ck.root) rfl (zaw HO1.out _) _ [m.root] rfl (zxj _ _ _ rfl) (by have := HLk.out; simp only [List.length_cons, List.length_nil]; omega) (by have := HG1.out.size; simp; omega) ?_; intro v2 w2 ho2 hg2; have HO2 : Hid (OwnE Ert w2 W0.heap.size v2 (zd1 g.v.l ++ zg9 g.k ++ (g.j.take (r + 1)).map Ck.root)) := (by show OwnE _ _ _ _ _; rw [HTk.out, ← List.append_assoc]; exact ho2); have HB2 : Hid (Below W0.heap.size W0 w2) := HG1.out.trans ((Gr.alloc hg2).own HO1.out HG1.out.size); clear ho2 hg2)
       clear z1
       go_roundw
       case rel => exact ⟨r + 1, HK.out, by go_num, HO2.out, HB2.out⟩
       case measure => simp [intOf]; have := HK.out; omega
      ·
       obtain rfl : r = n3 := by omega
       clear hlt
       have HO2 : Hid (OwnE Ert wr W0.heap.size u3 (zsh g)) := by
        have := HO.out
        rw [← HN3.out, List.take_length] at this
        exact this
       go_wp2_with fail
       go_ret
       exact ⟨_, rfl, zbi HO2.out HB.out.size, zab HB.out HG.out⟩
theorem z17 (x : En) (g : Eg) (w : World) (h : LaidG w x g) (sg : zep g) :
  Calls Tryz.prog 45 #[.agg (en x)] w fun e w' => e = .returned (.bool (zn9 g)) ∧ Below w.heap.size w w' := by
 obtain ⟨W0, hW0⟩ : ∃ W0, W0 = w.alloc (.cells (en x) 38) := ⟨_, rfl⟩
 have A : Hid (Gv w W0 w.heap.size x g) := by show Gv _ _ _ _ _; rw [hW0]; exact zi0 h
 have HW := Lib.hid hW0
 have HR := Lib.hid (fun W (l : LaidG W x g) => zw5 x.t.n g.t W l.t sg.t)
 have HT := Lib.hid (fun W (l : LaidG W x g) => zrz x g W l sg)
 obtain ⟨R, hR⟩ : ∃ R, R = zfd g.t := ⟨_, rfl⟩
 obtain ⟨T, hT⟩ : ∃ T, T = zsh g := ⟨_, rfl⟩
 have HRn : Hid (R.length ≤ 9000) := by show _ ≤ _; rw [hR, zqk]; have := sg.t; omega
 have HTn : Hid (T.length ≤ 4000) := by show _ ≤ _; rw [hT]; exact zu3 sg
 obtain ⟨r, hr⟩ : ∃ r, r = zn9 g := ⟨_, rfl⟩
 have HF : Hid (r = decide (∀ q, q ∈ T → q ∈ R)) := by show _ = _; rw [hr, hT, hR]; rfl
 rw [← hR] at HR
 rw [← hT] at HT
 rw [← hr]
 clear hW0 h sg hR hT hr
 go_enter Tryz.func45, Tryz.ntmps45
 go_upto_region 1 with fail
 rw [← HW.out]
 have zT := A.out.zT
 go_wp2_with fail
 refine (HR.out _ A.out.l).mono ?_
 rintro e w1 ⟨v1, rfl, ho1, gg⟩
 replace A := Lib.hid (A.out.keep gg)
 have HV1 := Lib.hid (za2 ho1)
 clear gg zT ho1 HR
 have z := A.out.z
 go_wp2_with fail
 refine (HT.out _ A.out.l).mono ?_
 rintro e w2 ⟨v2, rfl, ho2, gg⟩
 replace A := Lib.hid (A.out.keep gg)
 replace HV1 := Lib.hid (zad gg HV1.out)
 obtain ⟨n, hn⟩ : ∃ n, T.length = n := ⟨_, rfl⟩
 obtain ⟨p2, c2, rfl⟩ := zxl (za2 ho2) hn
 have HV2 := Lib.hid (za2 ho2)
 have HN := Lib.hid hn
 clear gg z ho2 HT hn
 go_wp2_with fail
 go_loopw [12] (fun i wr => ∃ k : Nat, k ≤ n ∧ i = .int .i64 (k : Int) ∧ (∀ q, q ∈ T.take k → q ∈ R) ∧ Below w2.heap.size w2 wr) (fun i _ => n - (intOf i).toNat)
 case atStart => exact ⟨0, Nat.zero_le _, rfl, by simp, Below.refl _ _⟩
 case round =>
  obtain ⟨k, hk, rfl, hq, hb⟩ := hrel
  have HQ := Lib.hid hq
  have HG := Lib.hid hb
  clear hq hb
  by_cases hlt : k < n
  ·
   have HK := Lib.hid hlt
   have i0 : (0 : Int) ≤ (k : Int) := by omega
   have i1 : (k : Int) < (n : Int) := by omega
   have u1 : (k : Int) + 1 < 10000 := by have := HN.out; have := HTn.out; omega
   obtain ⟨b1, o1, rfl, q1, x1⟩ := z7v (zad HG.out HV2.out) (by rw [HN.out]; omega)
   have y1 := yd5 x1 (i := k) (by rw [HN.out]; exact hlt)
   have HTk : Hid (T.take (k + 1) = T.take k ++ [rtA T k]) := by show _ = _; rw [List.take_succ_eq_append_getElem (by rw [HN.out]; exact hlt), zuq (by rw [HN.out]; exact hlt)]
   have HMe : Hid (rtA T k ∈ T) := by show _ ∈ _; rw [zuq (by rw [HN.out]; exact hlt)]; exact List.getElem_mem _
   obtain ⟨m, hm⟩ : ∃ m, m = rtA T k := ⟨_, rfl⟩
   rw [← hm] at y1 HTk HMe
   clear hlt q1 x1 hm
   go_upto_region 5 with fail
   obtain ⟨V, hV⟩ : ∃ V, V = wr.alloc (.cells (rc m) 34) := ⟨_, rfl⟩
   rw [← hV]
   have g5 : Below wr.heap.size wr V := by rw [hV]; exact below1
   have z1 := zar (show V.heap[wr.heap.size]? = some (.cells (rc m) 34 (0, 0)) from by rw [hV]; exact heap_alloc_last wr _) (zay m)
   have HG1 := Lib.hid (zab HG.out g5)
   have HC := z0l v1 R m V (zad HG1.out HV1.out) HRn.out
   obtain ⟨c, hc⟩ : ∃ c, c = decide (m ∈ R) := ⟨_, rfl⟩
   rw [← hc] at HC
   replace HC := Lib.hid HC
   have HCd := Lib.hid hc
   clear hV g5 y1 hc
   go_wp2_with fail
   refine HC.out.mono ?_
   rintro e w5 ⟨rfl, gg⟩
   have HG5 := Lib.hid (zab HG1.out gg)
   clear gg z1 HC
   cases c
   ·
    have hr0 : Hid (r = false) := by
     show r = false
     rw [HF.out, decide_eq_false_iff_not]
     intro hall
     have := HCd.out
     rw [decide_eq_true (hall m HMe.out)] at this
     cases this
    go_wp2_with fail
    go_ret
    exact ⟨by rw [hr0.out]; first | done | rfl, zab A.out.g HG5.out⟩
   ·
    have HI : Hid (∀ q, q ∈ T.take (k + 1) → q ∈ R) := by
     intro q hq
     rw [HTk.out, List.mem_append, List.mem_singleton] at hq
     rcases hq with h | rfl
     ·
      exact HQ.out q h
     ·
      exact of_decide_eq_true HCd.out.symm
    go_wp2_with fail
    go_roundw
    case rel => exact ⟨k + 1, HK.out, by go_num, HI.out, HG5.out⟩
    case measure => simp [intOf]; have := HK.out; omega
  ·
   obtain rfl : k = n := by omega
   have hr1 : Hid (r = true) := by
    show r = true
    rw [HF.out, decide_eq_true_iff]
    have := HQ.out
    rwa [← HN.out, List.take_length] at this
   clear hlt
   go_wp2_with fail
   go_ret
   exact ⟨by rw [hr1.out]; first | done | rfl, zab A.out.g HG.out⟩
end Go.Proofs.YtkalofboioffiaaGreat
