import Derived.Test.YtkalofboioffiaaGreatQ32
import Derived.RangeFuncSeq
namespace Go.Proofs.YtkalofboioffiaaGreat
open Go.RowKit
set_option maxRecDepth 200000
set_option maxHeartbeats 64000000
theorem z78 {l : List Lt} {k : Nat} (h : k < l.length) : zez (l.take (k + 1)) = if (lat l k).has = true then zez (l.take k) ++ [(lat l k).root] else zez (l.take k) := by
 unfold zez
 rw [List.take_succ_eq_append_getElem h, List.filter_append, zu4 h]
 by_cases e : l[k].has = true
 ·
  rw [if_pos e]; simp [e]
 ·
  rw [if_neg e]; simp [e]
theorem zl4 (l : List Lt) : (zez l).length ≤ l.length := by unfold zez; rw [List.length_map]; exact List.length_filter_le _ _
theorem z77 {l : List Lk} {k : Nat} (h : k < l.length) : zix (l.take (k + 1)) = zix (l.take k) ++ [(lkAt l k).s.root, (lkAt l k).t.root] := by
 unfold zix
 rw [List.take_succ_eq_append_getElem h, List.flatMap_append, zcy h]
 simp
theorem zrg (l : List Lk) : (zix l).length = 2 * l.length := by
 unfold zix
 induction l with
 | nil => rfl
 | cons a l ih => rw [List.flatMap_cons, List.length_append, ih, List.length_cons]; simp; omega
theorem z76 {l : List Ck} {k : Nat} (h : k < l.length) : (l.take (k + 1)).map Ck.root = (l.take k).map Ck.root ++ [(ckAt l k).root] := by
 rw [List.take_succ_eq_append_getElem h, List.map_append, zh8 h]
 rfl
theorem zzj {g : Eg} (h : zcv g) : (zwe g).length ≤ 4000 := by
 unfold zwe
 rw [List.length_append, List.length_append, zrg, List.length_map]
 have := zl4 g.v.l
 have := h.v; have := h.k; have := h.j
 omega
theorem zvz (x : En) (g : Eg) (w : World) (h : LaidG w x g) (sg : zcv g) :
  Calls Tryz.prog 91 #[.agg (en x)] w (ykj (zwe g) w) := by
 obtain ⟨W0, hW0⟩ : ∃ W0, W0 = w.alloc (.cells (en x) 38) := ⟨_, rfl⟩
 have A0 : Hid (Gv w W0 w.heap.size x g) := by show Gv _ _ _ _ _; rw [hW0]; exact zpz h
 have HB : Hid (Below w.heap.size w W0) := A0.out.g
 have HW := Lib.hid hW0
 have HSg := Lib.hid sg
 have HRl := Lib.hid (zzj sg)
 obtain ⟨⟨p1, n1, c1⟩, hs1⟩ : ∃ s : SlV, s = x.v.l := ⟨_, rfl⟩
 have HS1 := Lib.hid hs1
 obtain ⟨⟨p2, n2, c2⟩, hs2⟩ : ∃ s : SlV, s = x.k := ⟨_, rfl⟩
 have HS2 := Lib.hid hs2
 obtain ⟨⟨p3, n3, c3⟩, hs3⟩ : ∃ s : SlV, s = x.j := ⟨_, rfl⟩
 have HS3 := Lib.hid hs3
 have HL1 : Hid (SlE Elt w (.slice p1 n1 c1) g.v.l) := by have := h.v; rw [← hs1] at this; exact this
 have HL2 : Hid (SlE Elk w (.slice p2 n2 c2) g.k) := by have := h.k; rw [← hs2] at this; exact this
 have HL3 : Hid (SlE Ecc w (.slice p3 n3 c3) g.j) := by have := h.j; rw [← hs3] at this; exact this
 have HN1 : Hid (g.v.l.length = n1) := by
  obtain ⟨p', c', e, _⟩ := zar HL1.out
  injection e with _ e; exact e.symm
 have HN2 : Hid (g.k.length = n2) := by
  obtain ⟨p', c', e, _⟩ := zar HL2.out
  injection e with _ e; exact e.symm
 have HN3 : Hid (g.j.length = n3) := by
  obtain ⟨p', c', e, _⟩ := zar HL3.out
  injection e with _ e; exact e.symm
 clear hW0 h sg hs1 hs2 hs3
 go_enter Tryz.func91, Tryz.ntmps91
 go_upto_region 1 with fail
 rw [← HW.out]
 have y0 := A0.out.zv
 rw [← HS1.out, za7] at y0
 go_wp2_with fail
 clear y0
 go_loopw [3, 14] (fun kv i wr => ∃ k : Nat, k ≤ n1 ∧ i = .int .i64 (k : Int) ∧ OwnE Ert wr W0.heap.size kv (zez (g.v.l.take k)) ∧ Below W0.heap.size W0 wr) (fun _ i _ => n1 - (intOf i).toNat)
 case atStart => exact ⟨0, Nat.zero_le _, rfl, zb3 _ _ _, Below.refl _ _⟩
 case round =>
  obtain ⟨k, hk, rfl, ho, hb⟩ := hrel
  have HO := Lib.hid ho
  have HG := Lib.hid hb
  clear ho hb
  by_cases hlt : k < n1
  ·
   have HK := Lib.hid hlt
   have i0 : (0 : Int) ≤ (k : Int) := by omega
   have i1 : (k : Int) < (n1 : Int) := by omega
   have u1 : (k : Int) + 1 < 10000 := by have := HN1.out; have := HSg.out.v; omega
   obtain ⟨b1, o1, rfl, q1, x1⟩ := zlh (zad (zac HB.out HG.out) HL1.out) (by rw [HN1.out]; omega)
   have y1 := zqa x1 (i := k) (by rw [HN1.out]; exact hlt)
   have HTk := Lib.hid (z78 (l := g.v.l) (k := k) (by rw [HN1.out]; exact hlt))
   have HLk : Hid ((zez (g.v.l.take k)).length ≤ 1000) := by show _ ≤ _; have := zl4 (g.v.l.take k); rw [List.length_take] at this; have := HN1.out; have := HSg.out.v; omega
   obtain ⟨m, hm⟩ : ∃ m, m = lat g.v.l k := ⟨_, rfl⟩
   rw [← hm] at y1 HTk
   clear hlt q1 x1 hm
   go_upto_region 5 with fail
   obtain ⟨V, hV⟩ : ∃ V, V = wr.alloc (.cells (lt m) 115) := ⟨_, rfl⟩
   rw [← hV]
   have g5 : Below wr.heap.size wr V := by rw [hV]; exact below1
   have hV0 : V.heap[wr.heap.size]? = some (.cells (lt m) 115 (0, 0)) := by rw [hV]; exact heap_alloc_last wr _
   have z1 := zqi hV0
   have z2 := ztb hV0
   have HO1 := Lib.hid (zam g5 HO.out)
   have HG1 : Hid (Below W0.heap.size W0 V) := zac HG.out g5
   obtain ⟨hs, hhs⟩ : ∃ b, b = m.has := ⟨_, rfl⟩
   rw [← hhs] at z2 HTk
   clear hV g5 y1 hV0 hhs
   cases hs
   ·
    have HE : Hid (zez (g.v.l.take (k + 1)) = zez (g.v.l.take k)) := by show _ = _; rw [HTk.out]; exact if_neg (by decide)
    go_wp2_with fail
    clear z1 z2
    go_roundw
    case rel => exact ⟨k + 1, HK.out, by go_num, by rw [HE.out]; exact HO1.out, HG1.out⟩
    case measure => simp [intOf]; have := HK.out; omega
   ·
    have HE : Hid (zez (g.v.l.take (k + 1)) = zez (g.v.l.take k) ++ [m.root]) := by show _ = _; rw [HTk.out]; exact if_pos rfl
    go_wp2_with (at_builtin; refine zbs Krt _ rfl _ (.tmp 23) rfl W0.heap.size _ (zez (g.v.l.take k)) rfl (zba HO1.out _) _ [m.root] rfl (z1t _ _ _ rfl) (by have := HLk.out; simp; omega) (by have := HG1.out.size; simp; omega) ?_; intro v2 w2 ho2 hg2; have HO2 : Hid (OwnE Ert w2 W0.heap.size v2 (zez (g.v.l.take (k + 1)))) := (by show OwnE _ _ _ _ _; rw [HE.out]; exact ho2); have HB2 : Hid (Below W0.heap.size W0 w2) := HG1.out.trans ((Gr.alloc hg2).own HO1.out HG1.out.size); clear ho2 hg2)
    clear z1 z2
    go_roundw
    case rel => exact ⟨k + 1, HK.out, by go_num, HO2.out, HB2.out⟩
    case measure => simp [intOf]; have := HK.out; omega
  ·
   obtain rfl : k = n1 := by omega
   clear hlt
   have HO2 : Hid (OwnE Ert wr W0.heap.size u3 (zez g.v.l)) := by
    have := HO.out
    rw [← HN1.out, List.take_length] at this
    exact this
   obtain ⟨w1, hw1⟩ : ∃ w1, w1 = wr := ⟨_, rfl⟩
   rw [← hw1] at HO2 HG ⊢
   have A1 := Lib.hid (A0.out.keep HG.out)
   clear hw1 HO
   have y0 := A1.out.zk
   rw [← HS2.out, za7] at y0
   go_wp2_with fail
   clear y0
   go_loopw [3, 29] (fun kv i wr => ∃ k : Nat, k ≤ n2 ∧ i = .int .i64 (k : Int) ∧ OwnE Ert wr W0.heap.size kv (zez g.v.l ++ zix (g.k.take k)) ∧ Below W0.heap.size W0 wr) (fun _ i _ => n2 - (intOf i).toNat)
   case atStart => exact ⟨0, Nat.zero_le _, rfl, by rw [show zix (g.k.take 0) = [] from rfl, List.append_nil]; exact HO2.out, HG.out⟩
   case round =>
    obtain ⟨q, hq, rfl, ho, hb⟩ := hrel
    replace HO := Lib.hid ho
    replace HG := Lib.hid hb
    clear ho hb HO2
    by_cases hlt : q < n2
    ·
     have HK := Lib.hid hlt
     have i0 : (0 : Int) ≤ (q : Int) := by omega
     have i1 : (q : Int) < (n2 : Int) := by omega
     have u1 : (q : Int) + 1 < 10000 := by have := HN2.out; have := HSg.out.k; omega
     obtain ⟨b1, o1, rfl, q1, x1⟩ := zkj (zad (zac HB.out HG.out) HL2.out) (by rw [HN2.out]; omega)
     have y1 := zqg x1 (i := q) (by rw [HN2.out]; exact hlt)
     have HTk := Lib.hid (z77 (l := g.k) (k := q) (by rw [HN2.out]; exact hlt))
     have HLk : Hid ((zez g.v.l ++ zix (g.k.take q)).length ≤ 4000) := by show _ ≤ _; rw [List.length_append, zrg, List.length_take]; have := zl4 g.v.l; have := HN2.out; have := HSg.out.v; have := HSg.out.k; omega
     obtain ⟨m, hm⟩ : ∃ m, m = lkAt g.k q := ⟨_, rfl⟩
     rw [← hm] at y1 HTk
     clear hlt q1 x1 hm
     go_upto_region 11 with fail
     obtain ⟨V, hV⟩ : ∃ V, V = wr.alloc (.cells (lk m) 118) := ⟨_, rfl⟩
     rw [← hV]
     have g5 : Below wr.heap.size wr V := by rw [hV]; exact below1
     have hV0 : V.heap[wr.heap.size]? = some (.cells (lk m) 118 (0, 0)) := by rw [hV]; exact heap_alloc_last wr _
     have z1 := zll hV0
     have z2 := zlm hV0
     have HO1 := Lib.hid (zam g5 HO.out)
     have HG1 : Hid (Below W0.heap.size W0 V) := zac HG.out g5
     clear hV g5 y1 hV0
     go_wp2_with (at_builtin; refine zbs Krt _ rfl _ (.tmp 40) rfl W0.heap.size _ (zez g.v.l ++ zix (g.k.take q)) rfl (zba HO1.out _) _ [m.s.root, m.t.root] rfl (ynr _ _ _ _ rfl) (by have := HLk.out; simp only [List.length_cons, List.length_nil]; omega) (by have := HG1.out.size; simp; omega) ?_; intro v2 w2 ho2 hg2; have HO2 : Hid (OwnE Ert w2 W0.heap.size v2 (zez g.v.l ++ zix (g.k.take (q + 1)))) := (by show OwnE _ _ _ _ _; rw [HTk.out, ← List.append_assoc]; exact ho2); have HB2 : Hid (Below W0.heap.size W0 w2) := HG1.out.trans ((Gr.alloc hg2).own HO1.out HG1.out.size); clear ho2 hg2)
     clear z1 z2
     go_roundw
     case rel => exact ⟨q + 1, HK.out, by go_num, HO2.out, HB2.out⟩
     case measure => simp [intOf]; have := HK.out; omega
    ·
     obtain rfl : q = n2 := by omega
     clear hlt
     have HO2 : Hid (OwnE Ert wr W0.heap.size u3 (zez g.v.l ++ zix g.k)) := by
      have := HO.out
      rw [← HN2.out, List.take_length] at this
      exact this
     obtain ⟨w2, hw2⟩ : ∃ w2, w2 = wr := ⟨_, rfl⟩
     rw [← hw2] at HO2 HG ⊢
     have A2 := Lib.hid (A0.out.keep HG.out)
     clear hw2 HO A1
     have y0 := A2.out.zj
     rw [← HS3.out, za7] at y0
     go_wp2_with fail
     clear y0
     go_loopw [3, 46] (fun kv i wr => ∃ k : Nat, k ≤ n3 ∧ i = .int .i64 (k : Int) ∧ OwnE Ert wr W0.heap.size kv (zez g.v.l ++ zix g.k ++ (g.j.take k).map Ck.root) ∧ Below W0.heap.size W0 wr) (fun _ i _ => n3 - (intOf i).toNat)
     case atStart => exact ⟨0, Nat.zero_le _, rfl, by rw [show (g.j.take 0).map Ck.root = [] from rfl, List.append_nil]; exact HO2.out, HG.out⟩
     case round =>
      obtain ⟨r, hr, rfl, ho, hb⟩ := hrel
      replace HO := Lib.hid ho
      replace HG := Lib.hid hb
      clear ho hb HO2
      by_cases hlt : r < n3
      ·
       have HK := Lib.hid hlt
       have i0 : (0 : Int) ≤ (r : Int) := by omega
       have i1 : (r : Int) < (n3 : Int) := by omega
       have u1 : (r : Int) + 1 < 10000 := by have := HN3.out; have := HSg.out.j; omega
       obtain ⟨b1, o1, rfl, q1, x1⟩ := zj4 (zad (zac HB.out HG.out) HL3.out) (by rw [HN3.out]; omega)
       have y1 := zpc x1 (i := r) (by rw [HN3.out]; exact hlt)
       have HTk := Lib.hid (z76 (l := g.j) (k := r) (by rw [HN3.out]; exact hlt))
       have HLk : Hid ((zez g.v.l ++ zix g.k ++ (g.j.take r).map Ck.root).length ≤ 4000) := by show _ ≤ _; rw [List.length_append, List.length_append, zrg, List.length_map, List.length_take]; have := zl4 g.v.l; have := HN3.out; have := HSg.out.v; have := HSg.out.k; have := HSg.out.j; omega
       obtain ⟨m, hm⟩ : ∃ m, m = ckAt g.j r := ⟨_, rfl⟩
       rw [← hm] at y1 HTk
       clear hlt q1 x1 hm
       go_upto_region 16 with fail
       obtain ⟨V, hV⟩ : ∃ V, V = wr.alloc (.cells (cc m) 36) := ⟨_, rfl⟩
       rw [← hV]
       have g5 : Below wr.heap.size wr V := by rw [hV]; exact below1
       have hV0 : V.heap[wr.heap.size]? = some (.cells (cc m) 36 (0, 0)) := by rw [hV]; exact heap_alloc_last wr _
       have z1 := zdr hV0
       have HO1 := Lib.hid (zam g5 HO.out)
       have HG1 : Hid (Below W0.heap.size W0 V) := zac HG.out g5
       clear hV g5 y1 hV0
       go_wp2_with (at_builtin; refine zbs Krt _ rfl _ (.tmp 53) rfl W0.heap.size _ (zez g.v.l ++ zix g.k ++ (g.j.take r).map Ck.root) rfl (zba HO1.out _) _ [m.root] rfl (z1t _ _ _ rfl) (by have := HLk.out; simp only [List.length_cons, List.length_nil]; omega) (by have := HG1.out.size; simp; omega) ?_; intro v2 w2 ho2 hg2; have HO2 : Hid (OwnE Ert w2 W0.heap.size v2 (zez g.v.l ++ zix g.k ++ (g.j.take (r + 1)).map Ck.root)) := (by show OwnE _ _ _ _ _; rw [HTk.out, ← List.append_assoc]; exact ho2); have HB2 : Hid (Below W0.heap.size W0 w2) := HG1.out.trans ((Gr.alloc hg2).own HO1.out HG1.out.size); clear ho2 hg2)
       clear z1
       go_roundw
       case rel => exact ⟨r + 1, HK.out, by go_num, HO2.out, HB2.out⟩
       case measure => simp [intOf]; have := HK.out; omega
      ·
       obtain rfl : r = n3 := by omega
       clear hlt
       have HO2 : Hid (OwnE Ert wr W0.heap.size u3 (zwe g)) := by
        have := HO.out
        rw [← HN3.out, List.take_length] at this
        exact this
       go_wp2_with fail
       go_ret
       exact ⟨_, rfl, zbf HO2.out HB.out.size, zac HB.out HG.out⟩
theorem z7f (x : En) (g : Eg) (w : World) (h : LaidG w x g) (sg : zcv g) :
  Calls Tryz.prog 45 #[.agg (en x)] w fun e w' => e = .returned (.bool (zra g)) ∧ Below w.heap.size w w' := by
 obtain ⟨W0, hW0⟩ : ∃ W0, W0 = w.alloc (.cells (en x) 38) := ⟨_, rfl⟩
 have A : Hid (Gv w W0 w.heap.size x g) := by show Gv _ _ _ _ _; rw [hW0]; exact zpz h
 have HW := Lib.hid hW0
 have HR := Lib.hid (fun W (l : LaidG W x g) => zq7 x.t.n g.t W l.t sg.t)
 have HT := Lib.hid (fun W (l : LaidG W x g) => zvz x g W l sg)
 obtain ⟨R, hR⟩ : ∃ R, R = zb7 g.t := ⟨_, rfl⟩
 obtain ⟨T, hT⟩ : ∃ T, T = zwe g := ⟨_, rfl⟩
 have HRn : Hid (R.length ≤ 9000) := by show _ ≤ _; rw [hR, zg3]; have := sg.t; omega
 have HTn : Hid (T.length ≤ 4000) := by show _ ≤ _; rw [hT]; exact zzj sg
 obtain ⟨r, hr⟩ : ∃ r, r = zra g := ⟨_, rfl⟩
 have HF : Hid (r = decide (∀ q, q ∈ T → q ∈ R)) := by show _ = _; rw [hr, hT, hR]; rfl
 rw [← hR] at HR
 rw [← hT] at HT
 rw [← hr]
 clear hW0 h sg hR hT hr
 go_enter Tryz.func45, Tryz.ntmps45
 go_upto_region 1 with fail
 rw [← HW.out]
 have zT := A.out.zT
 go_wp2_with fail
 refine (HR.out _ A.out.l).mono ?_
 rintro e w1 ⟨v1, rfl, ho1, gg⟩
 replace A := Lib.hid (A.out.keep gg)
 have HV1 := Lib.hid (zat ho1)
 clear gg zT ho1 HR
 have z := A.out.z
 go_wp2_with fail
 refine (HT.out _ A.out.l).mono ?_
 rintro e w2 ⟨v2, rfl, ho2, gg⟩
 replace A := Lib.hid (A.out.keep gg)
 replace HV1 := Lib.hid (zad gg HV1.out)
 obtain ⟨n, hn⟩ : ∃ n, T.length = n := ⟨_, rfl⟩
 obtain ⟨p2, c2, rfl⟩ := z1v (zat ho2) hn
 have HV2 := Lib.hid (zat ho2)
 have HN := Lib.hid hn
 clear gg z ho2 HT hn
 go_wp2_with fail
 go_loopw [12] (fun i wr => ∃ k : Nat, k ≤ n ∧ i = .int .i64 (k : Int) ∧ (∀ q, q ∈ T.take k → q ∈ R) ∧ Below w2.heap.size w2 wr) (fun i _ => n - (intOf i).toNat)
 case atStart => exact ⟨0, Nat.zero_le _, rfl, by simp, Below.refl _ _⟩
 case round =>
  obtain ⟨k, hk, rfl, hq, hb⟩ := hrel
  have HQ := Lib.hid hq
  have HG := Lib.hid hb
  clear hq hb
  by_cases hlt : k < n
  ·
   have HK := Lib.hid hlt
   have i0 : (0 : Int) ≤ (k : Int) := by omega
   have i1 : (k : Int) < (n : Int) := by omega
   have u1 : (k : Int) + 1 < 10000 := by have := HN.out; have := HTn.out; omega
   obtain ⟨b1, o1, rfl, q1, x1⟩ := yc0 (zad HG.out HV2.out) (by rw [HN.out]; omega)
   have y1 := yj9 x1 (i := k) (by rw [HN.out]; exact hlt)
   have HTk : Hid (T.take (k + 1) = T.take k ++ [rtA T k]) := by show _ = _; rw [List.take_succ_eq_append_getElem (by rw [HN.out]; exact hlt), zy5 (by rw [HN.out]; exact hlt)]
   have HMe : Hid (rtA T k ∈ T) := by show _ ∈ _; rw [zy5 (by rw [HN.out]; exact hlt)]; exact List.getElem_mem _
   obtain ⟨m, hm⟩ : ∃ m, m = rtA T k := ⟨_, rfl⟩
   rw [← hm] at y1 HTk HMe
   clear hlt q1 x1 hm
   go_upto_region 5 with fail
   obtain ⟨V, hV⟩ : ∃ V, V = wr.alloc (.cells (rc m) 34) := ⟨_, rfl⟩
   rw [← hV]
   have g5 : Below wr.heap.size wr V := by rw [hV]; exact below1
   have z1 := zag (show V.heap[wr.heap.size]? = some (.cells (rc m) 34 (0, 0)) from by rw [hV]; exact heap_alloc_last wr _) (zav m)
   have HG1 := Lib.hid (zac HG.out g5)
   have HC := zmm v1 R m V (zad HG1.out HV1.out) HRn.out
   obtain ⟨c, hc⟩ : ∃ c, c = decide (m ∈ R) := ⟨_, rfl⟩
   rw [← hc] at HC
   replace HC := Lib.hid HC
   have HCd := Lib.hid hc
   clear hV g5 y1 hc
   go_wp2_with fail
   refine HC.out.mono ?_
   rintro e w5 ⟨rfl, gg⟩
   have HG5 := Lib.hid (zac HG1.out gg)
   clear gg z1 HC
   cases c
   ·
    have hr0 : Hid (r = false) := by
     show r = false
     rw [HF.out, decide_eq_false_iff_not]
     intro hall
     have := HCd.out
     rw [decide_eq_true (hall m HMe.out)] at this
     cases this
    go_wp2_with fail
    go_ret
    exact ⟨by rw [hr0.out]; first | done | rfl, zac A.out.g HG5.out⟩
   ·
    have HI : Hid (∀ q, q ∈ T.take (k + 1) → q ∈ R) := by
     intro q hq
     rw [HTk.out, List.mem_append, List.mem_singleton] at hq
     rcases hq with h | rfl
     ·
      exact HQ.out q h
     ·
      exact of_decide_eq_true HCd.out.symm
    go_wp2_with fail
    go_roundw
    case rel => exact ⟨k + 1, HK.out, by go_num, HI.out, HG5.out⟩
    case measure => simp [intOf]; have := HK.out; omega
  ·
   obtain rfl : k = n := by omega
   have hr1 : Hid (r = true) := by
    show r = true
    rw [HF.out, decide_eq_true_iff]
    have := HQ.out
    rwa [← HN.out, List.take_length] at this
   clear hlt
   go_wp2_with fail
   go_ret
   exact ⟨by rw [hr1.out]; first | done | rfl, zac A.out.g HG.out⟩
open Go.RowKit
section
variable {P : Program} {ops : Array Oper} {E S1 : List Nat} {L1 L2 : World → World → Prop} {W : World} {Q : Exit → Act → World → Prop} {nF : Nat}
def zhc (nF : Nat) (P : Program) (K : Value → World → Prop) : Result Next → Prop
 | .ok (.value v) w' => K v w'
 | .ok .skip w' => K undef w'
 | .ok (.enter f args) w' => Calls P f args w' fun e w'' => ∃ v, e = .returned v ∧ K v w''
 | .ok (.round l f tmps assign body) w' => RoundIn Fence.wide (nF - 1) P l f tmps assign body w' fun e w'' => ∃ v, e = .returned v ∧ K v w''
 | _ => False
def zgb (nF : Nat) (P : Program) (o : Oper) (a : Act) (w : World) (K : Value → World → Prop) : Prop := zhc nF P K ((execOp a.eval o).run P w)
theorem zef {o : Oper} {a : Act} {w : World} {K K' : Value → World → Prop} (h : ∀ v w', K v w' → K' v w') (hh : zgb nF P o a w K) : zgb nF P o a w K' := by
 unfold zgb at *
 generalize (execOp a.eval o).run P w = r at *
 cases r with
 | ok n w' =>
  cases n <;> simp only [zhc] at hh ⊢
  case value v => exact h _ _ hh
  case skip => exact h _ _ hh
  case enter f args => exact Calls.mono hh fun e w'' ⟨v, he, hk⟩ => ⟨v, he, h _ _ hk⟩
  case round l f tmps assign body => exact RoundIn.mono hh fun e w'' ⟨v, he, hk⟩ => ⟨v, he, h _ _ hk⟩
 | halt x w' => simp only [zhc] at hh
theorem zph {o : Oper} {a : Act} {w : World} {K : Value → World → Prop} (hh : zgb nF P o a w K) : ∃ v w', K v w' := by
 unfold zgb at *
 generalize (execOp a.eval o).run P w = r at *
 cases r with
 | ok n w' =>
  cases n <;> simp only [zhc] at hh
  case value v => exact ⟨_, _, hh⟩
  case skip => exact ⟨_, _, hh⟩
  case enter f args => obtain ⟨e, w'', _, ⟨v, _, hk⟩, _⟩ := hh []; exact ⟨v, w'', hk⟩
  case round l f tmps assign body => obtain ⟨e, w'', ⟨v, _, hk⟩, _⟩ := hh.2 default [] (room_wide _); exact ⟨v, w'', hk⟩
 | halt x w' => simp only [zhc] at hh
theorem zty {o : Oper} {a : Act} {w : World} {K : Value → World → Prop} {K' : Act → World → Prop} (h : ∀ v w', K v w' → K' (a.put o.dst v) w') (hh : zgb nF P o a w K) : o.wpIn Fence.wide nF P a w K' Q := by
 unfold zgb at hh
 unfold Oper.wpIn
 refine ⟨fun _ _ => trivial, ?_⟩
 rw [show Fence.wide.round = none from rfl, Oper.semAt_none]
 generalize (execOp a.eval o).run P w = r at *
 cases r with
 | ok n w' =>
  cases n <;> simp only [zhc] at hh <;> simp only [Oper.uponIn]
  case value v => exact h _ _ hh
  case skip => exact h _ _ hh
  case enter f args => exact ⟨fun e => (by cases e), callsIn_wide.2 (Calls.mono hh fun e w'' ⟨v, he, hk⟩ => by subst he; exact h _ _ hk)⟩
  case round l f tmps assign body => exact ⟨fun e => (by cases e), RoundIn.mono hh fun e w'' ⟨v, he, hk⟩ => by subst he; exact h _ _ hk⟩
 | halt x w' => simp only [zhc] at hh
def zi2 (nF : Nat) (L1 L2 : World → World → Prop) (S1 : List Nat) (P : Program) (ops : Array Oper) (E : List Nat) (W : World) (i : Nat) (K : Act → World → List (Nat × World) → Prop) (a : Act) (w : World) (σ : List (Nat × World)) : Prop :=
 match ops[i]? with
 | none => K a w σ
 | some o =>
  if Region.wanted o (yielded ops a.tmps) = true then
   (if E.contains i = true then zgb nF P o a w (fun v w' => relE L1 L2 ops S1 o w w' ∧ K (a.put o.dst v) w' ((i, w') :: σ)) else ∃ v, (∀ w', cls2 L1 L2 S1 W σ i o w' → zdu P o a w' v) ∧ K (a.put o.dst v) w σ)
  else K (a.put o.dst undef) w σ
theorem z8m (T : Two L1 L2) {listed : Array Bool} {i : Nat} {K K' : Act → World → List (Nat × World) → Prop} {a : Act} {w : World} {σ : List (Nat × World)} (hi : Inv2 L1 L2 ops S1 W listed σ w) (hr : i ∈ Region.ready .any ops listed) (h : ∀ a' w' σ', Inv2 L1 L2 ops S1 W (listed.setIfInBounds i true) σ' w' → K a' w' σ' → K' a' w' σ') (hh : zi2 nF L1 L2 S1 P ops E W i K a w σ) : zi2 nF L1 L2 S1 P ops E W i K' a w σ := by
 unfold zi2 at *
 split
 ·
  exact h _ _ _ (hi.step hr) (by simpa [*] using hh)
 ·
  rename_i o ho
  simp only [ho] at hh
  split
  ·
   rename_i hw
   rw [if_pos hw] at hh
   split
   ·
    rename_i he
    rw [if_pos he] at hh
    exact zef (fun v w' ⟨hl, hk⟩ => ⟨hl, h _ _ _ (hi.cons T ho hr hl) hk⟩) hh
   ·
    rename_i he
    rw [if_neg he] at hh
    obtain ⟨v, h1, h2⟩ := hh
    exact ⟨v, h1, h _ _ _ (hi.step hr) h2⟩
  ·
   rename_i hw
   rw [if_neg hw] at hh
   exact h _ _ _ (hi.step hr) hh
def zoc (nF : Nat) (L1 L2 : World → World → Prop) (S1 : List Nat) (P : Program) (ops : Array Oper) (E : List Nat) (W : World) (Q : Exit → Act → World → Prop) : Nat → Array Bool → Act → World → List (Nat × World) → Prop
 | 0, listed, a, w, _ => Region.ready .any ops listed = [] ∧ Q .normal a w
 | fuel + 1, listed, a, w, σ =>
  (Region.ready .any ops listed = [] → Q .normal a w) ∧
  ∀ i ∈ Region.ready .any ops listed, zi2 nF L1 L2 S1 P ops E W i (fun a' w' σ' => zoc nF L1 L2 S1 P ops E W Q fuel (listed.setIfInBounds i true) a' w' σ') a w σ
theorem ze0 (T : Two L1 L2) : ∀ (fuel : Nat) (listed : Array Bool) (a : Act) (w : World) (σ : List (Nat × World)), Inv2 L1 L2 ops S1 W listed σ w → zoc nF L1 L2 S1 P ops E W Q fuel listed a w σ → wpAnyIn Fence.wide nF P .any ops Q fuel listed a w
 | 0, _, _, _, _, _, h => h
 | fuel + 1, listed, a, w, σ, hi, h => ⟨h.1, fun i hm => by
  have := h.2 i hm
  unfold zi2 at this
  unfold wpOpIn
  split
  ·
   rename_i ho
   simp only [ho] at this
   exact ze0 T fuel _ _ _ _ (hi.step hm) this
  ·
   rename_i o ho
   simp only [ho] at this
   split
   ·
    rename_i hw
    rw [if_pos hw] at this
    split at this
    ·
     exact (zty (fun v w' ⟨hl, hk⟩ => ze0 T fuel _ _ _ _ (hi.cons T ho hm hl) hk) this)
    ·
     obtain ⟨v, h1, h2⟩ := this
     refine (zty (K := fun u w' => u = v ∧ w' = w) (fun u w' ⟨e1, e2⟩ => by subst e1 e2; exact ze0 T fuel _ _ _ _ (hi.step hm) h2) ?_)
     have hv := h1 w (hi.cls hm o)
     unfold zdu at hv
     unfold zgb
     rcases hv with e1 | ⟨e1, e2⟩
     ·
      rw [e1]; exact ⟨rfl, rfl⟩
     ·
      rw [e1, e2]; exact ⟨rfl, rfl⟩
   ·
    rename_i hw
    rw [if_neg hw] at this
    exact ⟨fun _ _ => trivial, ze0 T fuel _ _ _ _ (hi.step hm) this⟩⟩
theorem YX2.xOpI {i : Nat} {oi : Oper} {v : Value} {a : Act} {w : World} {σ : List (Nat × World)} (ho : ops[i]? = some oi) (hE : E.contains i = false ∨ Region.wanted oi (yielded ops a.tmps) = false) (h : YX2 L1 L2 S1 P ops W i oi v a σ) {K : Act → World → List (Nat × World) → Prop} (hk : K (a.put oi.dst v) w σ) : zi2 nF L1 L2 S1 P ops E W i K a w σ := by
 unfold zi2
 simp only [ho]
 rcases h with ⟨hw, h⟩ | ⟨hw, rfl⟩
 ·
  rw [if_pos hw]
  rcases hE with hE | hE
  ·
   rw [if_neg (by rw [hE]; exact Bool.false_ne_true)]; exact ⟨v, h, hk⟩
  ·
   rw [hw] at hE; cases hE
 ·
  rw [if_neg (by rw [hw]; exact Bool.false_ne_true)]; exact hk
theorem yd8 {i j : Nat} {oi oj : Oper} {v : Value} (hj : ops[j]? = some oj) (hap : oi.apart ops oj = true)
  (hsi : ∀ cs b, oi.op ≠ .select cs b) (hsj : ∀ cs b, oj.op ≠ .select cs b) {K : Act → World → List (Nat × World) → Prop} {a : Act} {w : World} {σ : List (Nat × World)}
  (hy : YX2 L1 L2 S1 P ops W i oi v a σ) (h : zi2 nF L1 L2 S1 P ops E W j K (a.put oi.dst v) w σ) :
  zi2 nF L1 L2 S1 P ops E W j (fun a' w' σ' => YX2 L1 L2 S1 P ops W i oi v a' σ' ∧ K (a'.put oi.dst v) w' σ') a w σ := by
 obtain ⟨h1, h2, h3⟩ := Oper.apart_spec hap
 have keep : ∀ (u : Value) (σ' : List (Nat × World)), (∀ w', cls2 L1 L2 S1 W σ' i oi w' → cls2 L1 L2 S1 W σ i oi w') → YX2 L1 L2 S1 P ops W i oi v (a.put oj.dst u) σ' := fun u σ' hs =>
  hy.of_same (execOp_put oi hsi a oj.dst u h3) (wanted_put oi a oj.dst u h3) hs
 unfold zi2 at *
 simp only [hj] at *
 rw [wanted_put oj a oi.dst v h1] at h
 split
 ·
  rename_i hw
  rw [if_pos hw] at h
  split
  ·
   rename_i he
   rw [if_pos he] at h
   unfold zgb at h ⊢
   rw [execOp_put oj hsj a oi.dst v h1] at h
   exact zef (P := P) (o := oj) (a := a) (w := w) (fun u w' ⟨hl, hk⟩ => ⟨hl, keep u _ (fun _ => zw5), by rw [← Act.put_comm a v u h2]; exact hk⟩) h
  ·
   rename_i he
   rw [if_neg he] at h
   obtain ⟨u, hu, hn⟩ := h
   refine ⟨u, fun w' hw' => ?_, keep u _ (fun _ h => h), by rw [← Act.put_comm a v u h2]; exact hn⟩
   have := hu w' hw'
   unfold zdu at *
   rwa [execOp_put oj hsj a oi.dst v h1] at this
 ·
  rename_i hw
  rw [if_neg hw] at h
  exact ⟨keep _ _ (fun _ h => h), by rw [← Act.put_comm a v undef h2]; exact h⟩
theorem zrl (T : Two L1 L2) {i : Nat} {oi : Oper} {v : Value} (hi : ops[i]? = some oi) (hsel : ∀ (j : Nat) (o : Oper) cs b, ops[j]? = some o → o.op ≠ .select cs b) :
  ∀ (fuel : Nat) (listed : Array Bool) (a : Act) (w : World) (σ : List (Nat × World)), Inv2 L1 L2 ops S1 W listed σ w →
   (∀ j oj, ops[j]? = some oj → j ≠ i → listed.getD j true = false → (∀ e ∈ oj.after, Region.binds .any e = true → e.on ≠ i) → oi.apart ops oj = true) →
   i ∈ Region.ready .any ops listed → (E.contains i = false ∨ Region.wanted oi (yielded ops a.tmps) = false) → YX2 L1 L2 S1 P ops W i oi v a σ →
   zoc nF L1 L2 S1 P ops E W Q fuel (listed.setIfInBounds i true) (a.put oi.dst v) w σ → zoc nF L1 L2 S1 P ops E W Q (fuel + 1) listed a w σ := by
 intro fuel
 induction fuel with
 | zero =>
  intro listed a w σ _ _ hr hE hy H
  refine ⟨fun h => (by rw [h] at hr; cases hr), fun j hj => ?_⟩
  by_cases hji : j = i
  ·
   subst hji; exact hy.xOpI hi hE H
  ·
   have := ready_mono hj hji
   rw [H.1] at this
   cases this
 | succ fuel ih =>
  intro listed a w σ hv hfree hr hE hy H
  refine ⟨fun h => (by rw [h] at hr; cases hr), fun j hj => ?_⟩
  by_cases hji : j = i
  ·
   subst hji; exact hy.xOpI hi hE H
  ·
   have h1 := H.2 j (ready_mono hj hji)
   obtain ⟨hjun, oj, hoj, hall⟩ := mem_ready.1 hj
   have hnot := zg2 hr hall
   have hap := hfree j oj hoj hji hjun hnot
   have h2 := yd8 hoj hap (fun cs b => hsel i oi cs b hi) (fun cs b => hsel j oj cs b hoj) hy h1
   have hfree' : ∀ k ok, ops[k]? = some ok → k ≠ i → (listed.setIfInBounds j true).getD k true = false →
     (∀ e ∈ ok.after, Region.binds .any e = true → e.on ≠ i) → oi.apart ops ok = true := fun k ok hk hki hun hno => by
    refine hfree k ok hk hki ?_ hno
    by_cases hjk : j = k
    ·
     subst hjk; exact hjun
    ·
     rw [getD_set_ne true hjk] at hun; exact hun
   have hkeep : ∀ u, Region.wanted oi (yielded ops (a.put oj.dst u).tmps) = Region.wanted oi (yielded ops a.tmps) := fun u => wanted_put oi a oj.dst u (Oper.apart_spec hap).2.2
   have h3 : zi2 nF L1 L2 S1 P ops E W j (fun a' w' σ' => (E.contains i = false ∨ Region.wanted oi (yielded ops a'.tmps) = false) ∧ YX2 L1 L2 S1 P ops W i oi v a' σ' ∧ zoc nF L1 L2 S1 P ops E W Q fuel ((listed.setIfInBounds i true).setIfInBounds j true) (a'.put oi.dst v) w' σ') a w σ := by
    unfold zi2 at h2 ⊢
    simp only [hoj] at h2 ⊢
    split
    ·
     rename_i hw
     rw [if_pos hw] at h2
     split
     ·
      rename_i he
      rw [if_pos he] at h2
      exact zef (fun u w' ⟨hl, hk⟩ => ⟨hl, by rw [hkeep u]; exact hE, hk⟩) h2
     ·
      rename_i he
      rw [if_neg he] at h2
      obtain ⟨u, hu, hk⟩ := h2
      exact ⟨u, hu, by rw [hkeep u]; exact hE, hk⟩
    ·
     rename_i hw
     rw [if_neg hw] at h2
     exact ⟨by rw [hkeep undef]; exact hE, h2⟩
   refine z8m T hv hj (fun a' w' σ' hv' h4 => ih (listed.setIfInBounds j true) a' w' σ' hv' hfree' (ready_mono hr (Ne.symm hji)) h4.1 h4.2.1 ?_) h3
   rw [Array.setIfInBounds_comm _ _ hji]
   exact h4.2.2
theorem zzr (_ : Two L1 L2) {i : Nat} {oi : Oper} (hi : ops[i]? = some oi) (hE : E.contains i = true) (hc : zdz ops E = true) (hsel : ∀ (j : Nat) (o : Oper) cs b, ops[j]? = some o → o.op ≠ .select cs b) :
  ∀ (fuel : Nat) (listed : Array Bool) (a : Act) (w : World) (σ : List (Nat × World)), Inv2 L1 L2 ops S1 W listed σ w → DC ops listed →
   (∀ j oj, ops[j]? = some oj → j ≠ i → listed.getD j true = false → (∀ e ∈ oj.after, Region.binds .any e = true → e.on ≠ i) → oi.apart ops oj = true) →
   i ∈ Region.ready .any ops listed → Region.wanted oi (yielded ops a.tmps) = true →
   zgb nF P oi a w (fun v w' => relE L1 L2 ops S1 oi w w' ∧ zoc nF L1 L2 S1 P ops E W Q fuel (listed.setIfInBounds i true) (a.put oi.dst v) w' ((i, w') :: σ)) → zoc nF L1 L2 S1 P ops E W Q (fuel + 1) listed a w σ := by
 intro fuel
 induction fuel with
 | zero =>
  intro listed a w σ _ _ _ hr hw H
  refine ⟨fun h => (by rw [h] at hr; cases hr), fun j hj => ?_⟩
  by_cases hji : j = i
  ·
   subst hji; unfold zi2; simp only [hi]; rw [if_pos hw, if_pos hE]; exact H
  ·
   obtain ⟨v, w', _, h0⟩ := zph H
   have := ready_mono hj hji
   rw [h0.1] at this
   cases this
 | succ fuel ih =>
  intro listed a w σ hv hdc hfree hr hw H
  refine ⟨fun h => (by rw [h] at hr; cases hr), fun j hj => ?_⟩
  by_cases hji : j = i
  ·
   subst hji; unfold zi2; simp only [hi]; rw [if_pos hw, if_pos hE]; exact H
  ·
   obtain ⟨hjun, oj, hoj, hall⟩ := mem_ready.1 hj
   have hnot := zg2 hr hall
   have hap := hfree j oj hoj hji hjun hnot
   obtain ⟨a1, a2, a3⟩ := Oper.apart_spec hap
   have hsi := fun cs b => hsel i oi cs b hi
   have hsj := fun cs b => hsel j oj cs b hoj
   have hjE : ¬ E.contains j = true := fun h => hji (zkw hdc E hc j i (by simpa using h) (by simpa using hE) hj hr)
   have hnw : zdl oj i = false := by
    cases h : zdl oj i with
    | false => rfl
    | true => obtain ⟨e, he, hb, hon⟩ := zdw h; exact absurd hon (hnot e he hb)
   have hfree' : ∀ k ok, ops[k]? = some ok → k ≠ i → (listed.setIfInBounds j true).getD k true = false →
     (∀ e ∈ ok.after, Region.binds .any e = true → e.on ≠ i) → oi.apart ops ok = true := fun k ok hk hki hun hno => by
    refine hfree k ok hk hki ?_ hno
    by_cases hjk : j = k
    ·
     subst hjk; exact hjun
    ·
     rw [getD_set_ne true hjk] at hun; exact hun
   have hr' := ready_mono hr (Ne.symm hji)
   have next : ∀ u, (∀ v w', zoc nF L1 L2 S1 P ops E W Q (fuel + 1) (listed.setIfInBounds i true) (a.put oi.dst v) w' ((i, w') :: σ) → zoc nF L1 L2 S1 P ops E W Q fuel ((listed.setIfInBounds i true).setIfInBounds j true) ((a.put oi.dst v).put oj.dst u) w' ((i, w') :: σ)) →
     zoc nF L1 L2 S1 P ops E W Q (fuel + 1) (listed.setIfInBounds j true) (a.put oj.dst u) w σ := fun u hn => by
    refine ih (listed.setIfInBounds j true) (a.put oj.dst u) w σ (hv.step hj) (hdc.add hj) hfree' hr' (by rw [wanted_put oi a oj.dst u a3]; exact hw) ?_
    have H2 := zef (fun v w' ⟨hl, hk⟩ => (⟨hl, hn v w' hk⟩ : relE L1 L2 ops S1 oi w w' ∧ _)) H
    unfold zgb at H2 ⊢
    rw [execOp_put oi hsi a oj.dst u a3]
    refine zef (P := P) (o := oi) (a := a) (w := w) (fun v w' ⟨hl, hk⟩ => ⟨hl, ?_⟩) H2
    rw [Array.setIfInBounds_comm _ _ hji, ← Act.put_comm a v u a2]
    exact hk
   obtain ⟨v0, w0, hl0, H0⟩ := zph H
   have h1 := H0.2 j (ready_mono hj hji)
   unfold zi2 at h1 ⊢
   simp only [hoj] at h1 ⊢
   rw [wanted_put oj a oi.dst v0 a1] at h1
   split
   ·
    rename_i hwj
    rw [if_pos hwj, if_neg hjE] at h1
    obtain ⟨c, hc1, hc2⟩ := h1
    have hval : ∀ w', cls2 L1 L2 S1 W σ j oj w' → zdu P oj a w' c := fun w' hw' => by
     have := hc1 w' (ze8 hnw hw')
     unfold zdu at *
     rwa [execOp_put oj hsj a oi.dst v0 a1] at this
    refine ⟨c, hval, next c fun v w' hk => ?_⟩
    have h2 := hk.2 j (ready_mono hj hji)
    unfold zi2 at h2
    simp only [hoj] at h2
    rw [wanted_put oj a oi.dst v a1, if_pos hwj, if_neg hjE] at h2
    obtain ⟨c', hc1', hc2'⟩ := h2
    have e : c' = c := by
     refine zri ?_ (hval w (hv.cls hj oj))
     have := hc1' w (ze8 hnw (hv.cls hj oj))
     unfold zdu at *
     rwa [execOp_put oj hsj a oi.dst v a1] at this
    subst e
    exact hc2'
   ·
    rename_i hwj
    refine next undef fun v w' hk => ?_
    have h2 := hk.2 j (ready_mono hj hji)
    unfold zi2 at h2
    simp only [hoj] at h2
    rw [wanted_put oj a oi.dst v a1, if_neg hwj] at h2
    exact h2
def zf5 (nF : Nat) (L1 L2 : World → World → Prop) (S1 : List Nat) (P : Program) (ops : Array Oper) (E : List Nat) (W : World) (Q : Exit → Act → World → Prop) : Nat → List Oper → Act → World → List (Nat × World) → Prop
 | _, [], a, w, _ => Q .normal a w
 | k, o :: rest, a, w, σ =>
  if Region.wanted o (yielded ops a.tmps) = true then
   (if E.contains k = true then zgb nF P o a w (fun v w' => relE L1 L2 ops S1 o w w' ∧ zf5 nF L1 L2 S1 P ops E W Q (k + 1) rest (a.put o.dst v) w' ((k, w') :: σ)) else ∃ v, (∀ w', cls2 L1 L2 S1 W σ k o w' → zdu P o a w' v) ∧ zf5 nF L1 L2 S1 P ops E W Q (k + 1) rest (a.put o.dst v) w σ)
  else zf5 nF L1 L2 S1 P ops E W Q (k + 1) rest (a.put o.dst undef) w σ
theorem zzs (T : Two L1 L2) (hs : Region.noSelect ops = true) (hc : zdz ops E = true) : ∀ (l : List Oper) (k : Nat) (listed : Array Bool) (a : Act) (w : World) (σ : List (Nat × World)), Inv2 L1 L2 ops S1 W listed σ w → DC ops listed → (∀ j, l[j]? = ops[k + j]?) →
  Region.lexFrom .any ops l.length k listed = true → zf5 nF L1 L2 S1 P ops E W Q k l a w σ → zoc nF L1 L2 S1 P ops E W Q l.length listed a w σ
 | [], _, _, _, _, _, _, _, _, hB, h => ⟨by simpa [Region.lexFrom] using hB, h⟩
 | o :: l, k, listed, a, w, σ, hv, hd, hl, hB, h => by
  have h0 : ops[k]? = some o := by simpa using (hl 0).symm
  simp only [List.length_cons, Region.lexFrom, Bool.and_eq_true] at hB
  obtain ⟨⟨hr, hf⟩, hB'⟩ := hB
  have hr' : k ∈ Region.ready .any ops listed := by simpa using hr
  have next : ∀ a' w' σ', Inv2 L1 L2 ops S1 W (listed.setIfInBounds k true) σ' w' → zf5 nF L1 L2 S1 P ops E W Q (k + 1) l a' w' σ' → zoc nF L1 L2 S1 P ops E W Q l.length (listed.setIfInBounds k true) a' w' σ' := fun a' w' σ' hv' h' =>
   zzs T hs hc l (k + 1) _ a' w' σ' hv' (hd.add hr') (fun j => by have := hl (j + 1); simpa [Nat.add_assoc, Nat.add_comm 1 j] using this) hB' h'
  unfold zf5 at h
  split at h
  ·
   rename_i hw
   split at h
   ·
    rename_i hE
    exact zzr T h0 hE hc (Region.noSelect_spec hs) l.length listed a w σ hv hd (Region.free_spec h0 hf) hr' hw (zef (fun v w' ⟨hl', hk⟩ => ⟨hl', next _ _ _ (hv.cons T h0 hr' hl') hk⟩) h)
   ·
    rename_i hE
    obtain ⟨v, h1, h2⟩ := h
    exact zrl T h0 (Region.noSelect_spec hs) l.length listed a w σ hv (Region.free_spec h0 hf) hr' (.inl (by simpa using hE)) (.inl ⟨hw, h1⟩) (next _ _ _ (hv.step hr') h2)
  ·
   rename_i hw
   have hw' : Region.wanted o (yielded ops a.tmps) = false := by simpa using hw
   exact zrl T h0 (Region.noSelect_spec hs) l.length listed a w σ hv (Region.free_spec h0 hf) hr' (.inr hw') (.inr ⟨hw', rfl⟩) (next _ _ _ (hv.step hr') h)
theorem twoI : Two Lq (fun _ _ => True) := { r1 := Lq.refl, r2 := fun _ => trivial, t1 := fun h k => h.trans k, t2 := fun _ _ => trivial, le := fun _ => trivial }
theorem ze4 (S1 E : List Nat) {id : Nat} {a : Act} {w : World} {l : List Oper} (hm : P.follows .mixedOrders = true) (hB : Region.lexB .any l.toArray = true) (hc : zdz l.toArray E = true)
  (h : zf5 nF Lq (fun _ _ => True) S1 P l.toArray E w.drew Q 0 l a w.drew []) : (Code.region id l.toArray true).wpIn Fence.wide nF P Q a w := by
 simp only [Region.lexB, Bool.and_eq_true] at hB
 refine wpIn_region_any hm ?_
 have hd : DC l.toArray (Array.replicate l.toArray.size false) := fun k o _ hl => by
  rw [Array.getD_eq_getD_getElem?, Array.getElem?_replicate] at hl
  split at hl <;> simp at hl
 have hI : Inv2 Lq (fun _ _ => True) l.toArray S1 w.drew (Array.replicate l.toArray.size false) [] w.drew := ⟨hd, ⟨trivial, by simp⟩, fun _ => ⟨Lq.refl _, by simp⟩⟩
 refine ze0 twoI (S1 := S1) (E := E) (W := w.drew) _ _ _ _ [] hI ?_
 have := zzs (P := P) twoI (S1 := S1) (W := w.drew) (Q := Q) hB.1 hc l 0 (Array.replicate l.toArray.size false) a w.drew [] hI hd (by simp) (by simpa using hB.2) h
 simpa using this
theorem yhu {o : Oper} {w w' : World} (ho : zhs ops S1 o = true) : relE Lq (fun _ _ => True) ops S1 o w w' := by
 unfold relE
 rw [if_pos ho]
 trivial
structure AnyW where
 w : World
instance : Inhabited AnyW := ⟨⟨default⟩⟩
theorem zmc {k : Nat} {a : Act} {w : World} {σ : List (Nat × World)} (h : Q .normal a w) : zf5 nF L1 L2 S1 P ops E W Q k [] a w σ := h
theorem zn0 {k : Nat} {o : Oper} {rest : List Oper} {a : Act} {w : World} {σ : List (Nat × World)} (hE : E.contains k = false) (hp : zdj o.op = true) (C : World → Prop) (h0 : ∀ w', cls2 L1 L2 S1 W σ k o w' → C w')
  (h : wpQuiet P ops C (fun a' => zf5 nF L1 L2 S1 P ops E W Q (k + 1) rest a' w σ) [o] a) : zf5 nF L1 L2 S1 P ops E W Q k (o :: rest) a w σ := by
 unfold zf5
 unfold wpQuiet at h
 split
 ·
  rename_i hw
  rw [if_pos hw] at h
  rw [if_neg (by rw [hE]; exact Bool.false_ne_true)]
  obtain ⟨v, h1, h2⟩ := h
  refine ⟨v, fun w' hw' => ?_, h2⟩
  have := h1 w' (h0 w' hw')
  unfold Oper.quietAt at this
  unfold zdu
  have hne := fun f args w'' => zet (P := P) hp (ρ := a.eval) (w := w') (w' := w'') (f := f) (args := args)
  generalize (execOp a.eval o).run P w' = r at *
  cases r with
  | ok n w1 =>
   cases n <;> simp only [Oper.quietUpon] at this
   case value u => obtain ⟨rfl, rfl⟩ := this; exact .inl rfl
   case skip => obtain ⟨rfl, rfl⟩ := this; exact .inr ⟨rfl, rfl⟩
   case enter f args => exact absurd rfl (hne f args w1)
  | halt x w1 => simp only [Oper.quietUpon] at this
 ·
  rename_i hw
  rw [if_neg hw] at h
  exact h
theorem zi1 {k : Nat} {o : Oper} {rest : List Oper} {a : Act} {w : World} {σ : List (Nat × World)} (hE : E.contains k = false) (hS : S1.contains k = true) (hp : zdj o.op = true)
  (h : wpQuiet P ops (fun w' => ∃ p : Wd W, w' = p.w) (fun a' => zf5 nF Lq (fun _ _ => True) S1 P ops E W Q (k + 1) rest a' w σ) [o] a) : zf5 nF Lq (fun _ _ => True) S1 P ops E W Q k (o :: rest) a w σ :=
 zn0 hE hp _ (fun w' hw' => ⟨⟨w', by have := hw'.1; unfold relC at this; rw [if_pos hS] at this; exact this⟩, rfl⟩) h
theorem zgk {k : Nat} {o : Oper} {rest : List Oper} {a : Act} {w : World} {σ : List (Nat × World)} (hE : E.contains k = false) (hp : zdj o.op = true)
  (h : wpQuiet P ops (fun w' => ∃ p : AnyW, w' = p.w) (fun a' => zf5 nF L1 L2 S1 P ops E W Q (k + 1) rest a' w σ) [o] a) : zf5 nF L1 L2 S1 P ops E W Q k (o :: rest) a w σ :=
 zn0 hE hp _ (fun w' _ => ⟨⟨w'⟩, rfl⟩) h
theorem znn {k : Nat} {o : Oper} {rest : List Oper} {a : Act} {w : World} {σ : List (Nat × World)} (hw : Region.wanted o (yielded ops a.tmps) = false) (h : zf5 nF L1 L2 S1 P ops E W Q (k + 1) rest (a.put o.dst undef) w σ) : zf5 nF L1 L2 S1 P ops E W Q k (o :: rest) a w σ := by
 unfold zf5
 rw [if_neg (by rw [hw]; exact Bool.false_ne_true)]
 exact h
theorem z2g {k : Nat} {o : Oper} {rest : List Oper} {a : Act} {w : World} {σ : List (Nat × World)} (hE : E.contains k = true) (hw : Region.wanted o (yielded ops a.tmps) = true) {c : Operand} {xs : Array Operand} {ts : Array TypeId} {lo : Nat}
  (ho : o.op = .call { callee := .value c, args := xs, argTypes := ts }) (hc : a.eval c = .func (.yield lo) #[] #[]) (hS : zhs ops S1 o = true)
  (args : Array Value) (hargs : xs.toList.map a.eval = args.toList) (h : YieldAt Fence.wide (nF - 1) P lo args w fun e w' => ∃ v, e = .returned v ∧ zf5 nF Lq (fun _ _ => True) S1 P ops E W Q (k + 1) rest (a.put o.dst v) w' ((k, w') :: σ)) : zf5 nF Lq (fun _ _ => True) S1 P ops E W Q k (o :: rest) a w σ := by
 unfold zf5
 rw [if_pos hw, if_pos hE]
 unfold zgb
 have hargs : xs.map a.eval = args := Array.toList_inj.1 (by rw [Array.toList_map]; exact hargs)
 subst hargs
 obtain ⟨fn, tmps, assign, body, hy, hr⟩ := h
 have : (execOp a.eval o).run P w = (Instr.yield lo (xs.map a.eval)).run P w := by
  unfold execOp
  simp [ho, hc, resolve, invoke, Deferred.ofValue]
 rw [this, hy]
 exact RoundIn.mono hr fun e w' ⟨v, he, hk⟩ => ⟨v, he, yhu hS, hk⟩
attribute [irreducible] zf5
end
end Go.Proofs.YtkalofboioffiaaGreat
