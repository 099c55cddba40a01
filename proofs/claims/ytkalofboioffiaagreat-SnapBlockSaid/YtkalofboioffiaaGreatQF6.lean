import Derived.Test.YtkalofboioffiaaGreatQF5
import Derived.Test.YtkalofboioffiaaGreatQF3
namespace Go.Proofs.YtkalofboioffiaaGreat
open Go.RowKit
set_option maxRecDepth 200000
set_option maxHeartbeats 64000000
section
open Go.Maps
theorem zzb {P : Program} {T k e : TypeId} (hu : P.underlying T = some (.map k e)) (n : Int) (w : World) : (Instr.makeMap T (some (.int .i64 n))).run P w = .ok (.map (some w.heap.size)) (w.alloc (.map #[] 0)) := by
 simp only [Instr.makeMap]
 simp [run_underlying hu, asInt]
 rfl
theorem zzw (w : World) : (zeroValue 135).run Tryz.prog w = .ok (.agg #[]) w := by kernel_rfl
def setD (l : List Rt) : Nat → DataW Unit
 | 0 => .map []
 | k + 1 => (setD l k).put (rk (rtAt l k)) (.agg [])
theorem zzd (l : List Rt) : ∀ k, Tidy (setD l k)
 | 0 => tidy_empty
 | k + 1 => (zzd l k).put (zlf _) _
theorem z4k (l : List Rt) (r : Rt) : ∀ k, Maps.has (setD l k) (rk r) = true ↔ ∃ i, i < k ∧ rtAt l i = r
 | 0 => ⟨fun h => (by cases h), fun ⟨_, h, _⟩ => absurd h (Nat.not_lt_zero _)⟩
 | k + 1 => by
  unfold setD
  by_cases e : rtAt l k = r
  ·
   rw [e, has_put_same (zzd l k).isMap (zlf r)]
   exact ⟨fun _ => ⟨k, Nat.lt_succ_self k, e⟩, fun _ => rfl⟩
  ·
   rw [has_put_other (fun h => e (ycy h).symm), z4k l r k]
   constructor
   ·
    rintro ⟨i, hi, h⟩; exact ⟨i, by omega, h⟩
   ·
    rintro ⟨i, hi, h⟩
    rcases Nat.lt_succ_iff_lt_or_eq.1 hi with h1 | rfl
    ·
     exact ⟨i, h1, h⟩
    ·
     exact absurd h e
theorem yh3 (l : List Rt) (r : Rt) : Maps.has (setD l l.length) (rk r) = decide (r ∈ l) := by
 rw [Bool.eq_iff_iff, z4k, decide_eq_true_iff, List.mem_iff_getElem]
 constructor
 ·
  rintro ⟨i, hi, h⟩; exact ⟨i, hi, by rw [← z1s hi]; exact h⟩
 ·
  rintro ⟨i, hi, h⟩; exact ⟨i, hi, by rw [z1s hi]; exact h⟩
theorem zvt {H : Type} {P : Program} {k : TypeId} {R : Value → Option (DataW H × List MemPlace)} {b n : Nat} {D : DataW H} {W W' : World} (h : W.ownsMap P k R b n D) (e : W'.heap[b]? = W.heap[b]?) : W'.ownsMap P k R b n D := by
 obtain ⟨es, clock, hb, h2⟩ := h
 exact ⟨es, clock, e.trans hb, h2⟩
theorem z1i {H α : Type} {E : Lie α} {P : Program} {k : TypeId} {R : Value → Option (DataW H × List MemPlace)} {b n base g m c : Nat} {D : DataW H} {W : World} {l : List α} (h : W.ownsMap P k R b n D) (ho : OwnE E W base (.slice (some ⟨g, 0, none⟩) m c) l) : b ≠ g := by
 rintro rfl
 obtain ⟨es, clock, hb, _⟩ := h
 rcases ho.2 with ⟨e, _⟩ | ⟨g', cap, cur, e, _, hg, _⟩
 ·
  cases e
 ·
  injection e with e
  injection e with e
  injection e with e
  subst e
  rw [hb] at hg
  cases hg
def yek (v : Vt) (w : World) (e : Ending) (w' : World) : Prop := ∃ s : SlV, e = .returned (.agg (vo ⟨s, v.out⟩)) ∧ OwnE Elt w' w.heap.size (sv s) v.l ∧ Below w.heap.size w w'
theorem Ow.postIs {w W : World} {R O : Nat} {s : SlV} {x V : Vt} (h : Ow w W R O s x) (e : V = x) : yek V w (.returned (.agg (vo ⟨s, x.out⟩))) (stA W (.pointer (some ⟨R, 0, none⟩)) (.agg (vo ⟨s, x.out⟩))) := by
 subst e
 exact ⟨s, rfl, zbf (zdp h.own (Nat.lt_succ_self _)) (by have := h.lr; omega), zap h.g h.lr⟩
theorem yld {w : World} {base g n c : Nat} {l : List Lt} (h : OwnE Elt w base (.slice (some ⟨g, 0, none⟩) n c) l) {j : Nat} (hj : j < l.length) : ldA w (.pointer (some ⟨g, j * 34, none⟩)) 34 = some (lt (lat l j)) := by
 obtain ⟨b1, o1, e, _, x⟩ := zlh (zat h) (by omega)
 injection e with e
 injection e with e1 e2
 subst e1 e2
 have := zqa x hj
 rwa [Nat.zero_add] at this
theorem z2c (p q : Option Addr) (n cp m ck : Nat) (v : Vt) (keep : List Rt) (w : World) (h : SlE Elt w (.slice p n cp) v.l) (hk : SlE Ert w (.slice q m ck) keep) (hl : v.l.length = n) (hm : keep.length = m) (hn : n ≤ 1000) (hm1 : m ≤ 1000) :
  Calls Tryz.prog 167 #[.agg (vo ⟨⟨p, n, cp⟩, v.out⟩), .slice q m ck] w (yek (zmn v keep) w) := by
 have hmm := zzb (P := Tryz.prog) Tryz.underlying230
 obtain ⟨W0, hW0⟩ : ∃ W0, W0 = (w.alloc (.cells (vo ⟨⟨p, n, cp⟩, v.out⟩) 29)).alloc (.cells (vo zvo) 29) := ⟨_, rfl⟩
 obtain ⟨hB, hA, hR, hZ⟩ := zdb w _ _ _ _ W0 hW0
 have A : Hid (Vw w W0 w.heap.size ⟨p, n, cp⟩ v) := ⟨hA, zad hB h, hB⟩
 have R0 : Hid (W0.heap[w.heap.size + 1]? = some (.cells (vo zvo) 29 (0, 0))) := hR
 have K := Lib.hid (zad hB hk)
 have HCp := Lib.hid (z8h ⟨p, n, cp⟩ v W0 A.out.s (by omega))
 have HM := Lib.hid (fun W (hP : Vw w W w.heap.size ⟨p, n, cp⟩ v) => ydy ⟨p, n, cp⟩ v W hP.s)
 have HZ : Hid (W0.heap.size = w.heap.size + 1 + 1) := hZ
 have HW := Lib.hid hW0
 have HL := Lib.hid hl
 have HK := Lib.hid hm
 have HN := Lib.hid hn
 have HN1 := Lib.hid hm1
 obtain ⟨dv, hdv⟩ : ∃ dv, dv = zmn v keep := ⟨_, rfl⟩
 rw [← hdv]
 have HD := Lib.hid hdv
 obtain ⟨may, hmay⟩ : ∃ b, b = mayV v := ⟨_, rfl⟩
 have HB := Lib.hid hmay
 rw [← hmay] at HM
 have H1 : Hid (may = true → 1 ≤ n) := fun e => by rw [← HL.out]; exact (zcu.1 (HB.out.symm.trans e)).1
 have z1 := A.out.z1
 clear hW0 h hk hl hm hn hm1 hdv hmay hB hA hR hZ
 go_enter Tryz.func167, Tryz.ntmps167
 go_upto_region 1 with fail
 rw [← HW.out]
 go_wp2_with fail
 refine HCp.out.mono ?_
 rintro e1 w1 ⟨s2, rfl, ho, g⟩
 go_upto_region 2 with fail
 obtain ⟨w2, hw2⟩ : ∃ w2, w2 = w1.alloc (.cells (vo ⟨s2, v.out⟩) 29) := ⟨_, rfl⟩
 rw [← hw2]
 have Q : Hid (Ow w w2 (w.heap.size + 1) w1.heap.size s2 v) := yqe A.out.g R0.out HZ.out (by omega) ho g hw2 rfl
 have g2 : Below W0.heap.size W0 w2 := zac g (by rw [hw2]; exact below1)
 replace A := Lib.hid (A.out.keep g2)
 replace K := Lib.hid (zad g2 K.out)
 obtain ⟨O, hO⟩ : ∃ O, O = w1.heap.size := ⟨_, rfl⟩
 rw [← hO] at Q ⊢
 clear hw2 ho g z1 hO HCp g2
 have z1 := A.out.z1
 go_wp2_with fail
 refine (HM.out _ A.out).mono ?_
 rintro e1 w3 ⟨rfl, g⟩
 replace Q := Lib.hid (Q.out.keep g)
 replace K := Lib.hid (zad g K.out)
 clear g z1 A
 cases may
 ·
  have HV : Hid (dv = v) := by show dv = v; rw [HD.out]; unfold zmn; rw [← HB.out]; rfl
  have y1 := (zb5 Q.out.o).2.2.1
  have z2 := za0 Q.out.r (zbv _)
  go_wp2_with fail
  exact bodyPost_ret (zax Tryz.isAgg29 Tryz.sizeOf29 _ 4 rfl _ _ _ _ rfl (zag (zc4 Q.out.r (by rw [zbv, zbv])) (zbv _))) rfl (Q.out.postIs HV.out)
 ·
  have HV : Hid (∀ l' : List Lt, l'.length = n → (∀ x, lat l' x = if x < n then (if zsa keep (lat v.l x) = true then lat v.l x else zlt) else lat v.l x) → dv = ⟨l', v.out⟩) := fun l' e1 e2 => by
   rw [HD.out]; unfold zmn; rw [← HB.out, if_pos rfl]
   refine Vt.ext (ymi (by rw [List.length_map, e1, HL.out]) fun i hi => ?_) rfl
   show lat (v.l.map _) i = lat l' i
   have hi' : i < n := by have : i < l'.length := hi; omega
   rw [ymj (by rw [HL.out]; exact hi'), e2, if_pos hi']
  obtain ⟨g2, c2, rfl⟩ : ∃ g2 c2 : Nat, s2 = ⟨some ⟨g2, 0, none⟩, n, c2⟩ := by
   obtain ⟨g2, c2, e, _⟩ := ycc Q.out.own HL.out (H1.out rfl)
   obtain ⟨sp, sn, sc⟩ := s2
   rw [za7] at e
   injection e with e1 e2 e3
   exact ⟨g2, c2, by rw [e1, e2, e3]⟩
  clear HM
  go_wp2_with fail
  go_loopw [24] (fun i wr => ∃ j : Nat, j ≤ m ∧ i = .int .i64 (j : Int) ∧ wr.ownsMap Tryz.prog 34 (unitElem (H := Unit)) w3.heap.size j (setD keep j) ∧ Below w3.heap.size w3 wr ∧ w3.heap.size + 1 ≤ wr.heap.size) (fun i _ => m - (intOf i).toNat)
  case atStart => exact ⟨0, Nat.zero_le _, rfl, World.ownsMap_made _ _ _ _, below1, by simp⟩
  case round =>
   obtain ⟨j, hj, rfl, hown, hb, hsz⟩ := hrel
   have HO := Lib.hid hown
   have HBB := Lib.hid hb
   have HSZ := Lib.hid hsz
   clear hown hb hsz
   by_cases hlt : j < m
   ·
    have i0 : (0 : Int) ≤ (j : Int) := by omega
    have i1 : (j : Int) < (m : Int) := by omega
    have u1 : (j : Int) + 1 < 10000 := by have := HN1.out; omega
    obtain ⟨b1, o1, rfl, q1, x1⟩ := yns K.out (by have := HK.out; omega)
    have y1 := Go.Proofs.YtkalofboioffiaaGreat.keep HBB.out (yql x1 (i := j) (by have := HK.out; omega))
    have HXn : Hid (∃ x, x = rtAt keep j) := ⟨_, rfl⟩
    clear x1 q1
    obtain ⟨x, hx⟩ := HXn.out
    rw [← hx] at y1
    have HXx := Lib.hid hx
    clear HXn hx
    go_wp2_with (at_mapUpdate; refine wpList_mapUpdate_own _ rfl _ _ _ 230 rfl 34 135 keyed_root Tryz.underlying230 (unitElem (H := Unit)) w3.heap.size j _ rfl (HO.out.alloc _) (by unfold maxLen; omega) _ _ _ rfl rfl (zge x) _ [] unitElem_mk ?_; intro w4 hown1 hgrow1)
    have hs4 := hgrow1.size
    simp at hs4
    go_roundw
    case rel => exact ⟨j + 1, by omega, by go_num, by unfold setD; rw [← HXx.out]; exact hown1, (zac HBB.out below1).grown hgrow1 (by have := HSZ.out; simp; omega) (fun k hk => by cases hk; exact Nat.le_refl _), by have := HSZ.out; omega⟩
    case measure => simp [intOf]; omega
   ·
    obtain rfl : j = m := by omega
    have HHas : Hid (∀ r, Maps.has (setD keep j) (rk r) = decide (r ∈ keep)) := fun r => by rw [← HK.out]; exact yh3 keep r
    replace Q := Lib.hid (Q.out.keep HBB.out)
    obtain ⟨D, hD⟩ : ∃ D, D = setD keep j := ⟨_, rfl⟩
    obtain ⟨B, hB⟩ : ∃ B, B = w3.heap.size := ⟨_, rfl⟩
    rw [← hD] at HO HHas
    rw [← hB] at HO ⊢
    clear hlt HBB HSZ K hD hB
    have y0 := (zb5 Q.out.o).1
    dsimp only at y0
    rw [za7] at y0
    go_wp2_with fail
    go_loopw [35] (fun i wr => ∃ x : Nat, x ≤ n ∧ i = .int .i64 (x : Int) ∧ ∃ l', Ow w wr (w.heap.size + 1) O ⟨some ⟨g2, 0, none⟩, n, c2⟩ ⟨l', v.out⟩ ∧ l'.length = n ∧ (∀ y, lat l' y = if y < x then (if zsa keep (lat v.l y) = true then lat v.l y else zlt) else lat v.l y) ∧ wr.ownsMap Tryz.prog 34 (unitElem (H := Unit)) B j D) (fun i _ => n - (intOf i).toNat)
    case atStart => exact ⟨0, Nat.zero_le _, rfl, v.l, Q.out, HL.out, fun y => by rw [if_neg (Nat.not_lt_zero _)], HO.out⟩
    case round =>
     obtain ⟨x, hx, rfl, l', hQ, hl', hlat, hown⟩ := hrel
     replace Q := Lib.hid hQ
     replace HO := Lib.hid hown
     have HX := Lib.hid hlat
     have HL' := Lib.hid hl'
     clear hQ hl' hlat hown y0
     by_cases hlt : x < n
     ·
      have i0 : (0 : Int) ≤ (x : Int) := by omega
      have i1 : (x : Int) < (n : Int) := by omega
      have u1 : (x : Int) + 1 < 10000 := by have := HN.out; omega
      have HLT := Lib.hid hlt
      have y1 := yld Q.out.own (j := x) (by rw [HL'.out]; exact hlt)
      have e1 : lat l' x = lat v.l x := by rw [HX.out x, if_neg (Nat.lt_irrefl _)]
      obtain ⟨z, hz⟩ : ∃ z, z = lat v.l x := ⟨_, rfl⟩
      rw [e1, ← hz] at y1
      have HZz := Lib.hid hz
      clear e1 hz hlt
      go_upto_region 13 with fail
      obtain ⟨w5, hw5⟩ : ∃ w5, w5 = wr.alloc (.cells (lt z) 115) := ⟨_, rfl⟩
      rw [← hw5]
      have hz5 : w5.heap[wr.heap.size]? = some (.cells (lt z) 115 (0, 0)) := by rw [hw5]; exact heap_alloc_last wr _
      replace Q := Lib.hid (Q.out.keep (W' := w5) (by rw [hw5]; exact below1))
      replace HO := Lib.hid (zci (w1 := w5) (by rw [hw5]; exact below1) HO.out)
      have z2 := (zgg hz5).2.1
      clear hw5 hz5 y1
      have hst : zsa keep z = decide (z.root ∈ keep) := rfl
      have hh := HHas.out z.root
      rw [← hst] at hh
      obtain ⟨t, ht⟩ : ∃ t, t = zsa keep z := ⟨_, rfl⟩
      rw [← ht] at hh
      have HT := Lib.hid ht
      obtain ⟨ρ, hρ⟩ : ∃ ρ, ρ = z.root := ⟨_, rfl⟩
      rw [← hρ] at z2 hh
      clear hst ht hρ
      cases t
      ·
       have yw := (Q.out.keep below1).wr (W := w5.alloc (.cells #[] 135)) HL'.out HLT.out
       have y0 := (zb5 (Q.out.keep (below1 (o := .cells #[] 135))).o).1
       dsimp only at y0
       rw [za7] at y0
       go_upto_region 16 with (at_lookup; refine wpList_lookup_own_unit _ rfl _ _ 230 rfl 34 135 keyed_root Tryz.underlying230 (zzw _) B j D rfl HO.out _ _ rfl (zge ρ) ?_)
       obtain ⟨w6, hw6⟩ : ∃ w6, w6 = stA (w5.alloc (.cells #[] 135)) (.pointer (some ⟨g2, x * 34, none⟩)) (.agg (lt zlt)) := ⟨_, rfl⟩
       rw [← hw6]
       have hbg := z1i HO.out Q.out.own
       replace HO : Hid (w6.ownsMap Tryz.prog 34 (unitElem (H := Unit)) B j D) := by rw [hw6]; exact zvt (zci below1 HO.out) (zdf hbg)
       replace Q : Hid (Ow w w6 (w.heap.size + 1) O ⟨some ⟨g2, 0, none⟩, n, c2⟩ ⟨l'.set x zlt, v.out⟩) := by rw [hw6]; exact (Q.out.keep below1).elem HL'.out HLT.out _
       clear hw6 hbg yw y0 z2 hh
       go_wp2_with fail
       go_roundw
       case rel => exact ⟨x + 1, HLT.out, by go_num, l'.set x zlt, Q.out, by rw [List.length_set, HL'.out], (fun y => by
        rw [zkg (by rw [HL'.out]; exact HLT.out), HX.out y]
        by_cases e : y = x
        ·
         subst e; rw [if_pos rfl, if_pos (Nat.lt_succ_self _), ← HZz.out, ← HT.out]; rfl
        ·
         rw [if_neg e]
         by_cases e2 : y < x
         ·
          rw [if_pos e2, if_pos (show y < x + 1 by omega)]
         ·
          rw [if_neg e2, if_neg (show ¬ y < x + 1 by omega)]), HO.out⟩
       case measure => simp [intOf]; have := HLT.out; omega
      ·
       go_wp2_with (at_lookup; refine wpList_lookup_own_unit _ rfl _ _ 230 rfl 34 135 keyed_root Tryz.underlying230 (zzw _) B j D rfl HO.out _ _ rfl (zge ρ) ?_)
       go_roundw
       case rel => exact ⟨x + 1, HLT.out, by go_num, l', Q.out.keep below1, HL'.out, (fun y => by
        rw [HX.out y]
        by_cases e : y = x
        ·
         subst e; rw [if_neg (Nat.lt_irrefl _), if_pos (Nat.lt_succ_self _), ← HZz.out, ← HT.out]; rfl
        ·
         by_cases e2 : y < x
         ·
          rw [if_pos e2, if_pos (show y < x + 1 by omega)]
         ·
          rw [if_neg e2, if_neg (show ¬ y < x + 1 by omega)]), zci below1 HO.out⟩
       case measure => simp [intOf]; have := HLT.out; omega
     ·
      obtain rfl : x = n := by omega
      have HE := Lib.hid (HV.out l' HL'.out HX.out)
      have y1 := (zb5 Q.out.o).2.2.1
      have z2 := za0 Q.out.r (zbv _)
      clear hlt
      go_wp2_with fail
      exact bodyPost_ret (zax Tryz.isAgg29 Tryz.sizeOf29 _ 4 rfl _ _ _ _ rfl (zag (zc4 Q.out.r (by rw [zbv, zbv])) (zbv _))) rfl (Q.out.postIs HE.out)
theorem ydw (s : SlV) (u : Value) (v : Vt) (keep : List Rt) (w : World) (h : SlE Elt w (sv s) v.l) (hk : SlE Ert w u keep) (hn : v.l.length ≤ 1000) (hm : keep.length ≤ 1000) :
  Calls Tryz.prog 167 #[.agg (vo ⟨s, v.out⟩), u] w (yek (zmn v keep) w) := by
 have hl := znd h
 have hks := hk
 obtain ⟨q, ck, rfl, _⟩ := zar hk
 obtain ⟨p, n, cp⟩ := s
 dsimp only at hl
 exact z2c p q n cp _ ck v keep w h hks hl rfl (by omega) hm
end
theorem zrx : ∀ args w, (callFunc 21 args).run Tryz.prog w = .ok (.enter 21 args) w := zbe Tryz.func21 (by kernel_rfl) (by kernel_rfl)
theorem zup : ∀ args w, (callFunc 166 args).run Tryz.prog w = .ok (.enter 166 args) w := zbe Tryz.func166 (by kernel_rfl) (by kernel_rfl)
theorem yhl {g : Eg} (m : MayS' g) : MayT (prT g) ∧ (prT g).length ≤ 1000 ∧ fitB (prT g) (prV g) g.bal = true := by
 have h := pr_G m
 rw [yj4 (z3i (zhx.2 m))] at h
 exact ⟨h.t, Nat.le_trans h.t.le (by decide), h.fit⟩
theorem zyx (c : Cl) (x : En) (g : Eg) (B : Nat) (w : World) (h : OwnG w B x g) (hBw : B ≤ w.heap.size) (m : MayS' g) (hj : g.j.length ≤ 1000) :
  Calls Tryz.prog 133 #[.agg (cl c), .agg (en x)] w (EgErB (prG g) (zif g) B w) := by
 obtain ⟨W0, hW0⟩ : ∃ W0, W0 = ((w.alloc (.cells (cl c) 142)).alloc (.cells (en x) 38)).alloc (.cells (en zen) 38) := ⟨_, rfl⟩
 obtain ⟨hB, _, q0, q2, _⟩ := zft w _ _ _ _ _ _ W0 hW0
 have A : Hid (Gp w x g (w.heap.size + 2) W0 (w.heap.size + 1) x g) := zlc h.laid hB q0 ⟨_, q2⟩ (by omega) (by omega) (by omega)
 have HW := Lib.hid hW0
 have HO := Lib.hid h
 have HBw := Lib.hid hBw
 have sh := z6j m
 have pp := yhl m
 have e0 := z3i (zhx.2 m)
 obtain ⟨G, hG⟩ : ∃ G, G = prG g := ⟨_, rfl⟩
 obtain ⟨R, hR⟩ : ∃ R, R = zif g := ⟨_, rfl⟩
 obtain ⟨P, hP⟩ : ∃ P, P = prT g := ⟨_, rfl⟩
 obtain ⟨V, hV⟩ : ∃ V, V = prV g := ⟨_, rfl⟩
 obtain ⟨WW, hWW⟩ : ∃ Z, Z = wtsL P V g.bal := ⟨_, rfl⟩
 obtain ⟨I, hI⟩ : ∃ I, I = zal g.t g.fin.root := ⟨_, rfl⟩
 have HGR : Hid (G = { g with t := P, v := V, w := WW, k := g.k.filter (fun y => !goK (zb7 P) g.fin y), j := g.j.filter (fun y => !goJ (zb7 P) g.fin y) } ∧ R = 0) := by
  refine ⟨?_, by rw [hR]; exact e0⟩
  have hm := pp.1
  rw [← hP] at hm
  rw [hG, yj4 e0, hWW, hV, hP]
  rw [← hP]
  refine Eg.ext rfl rfl rfl rfl rfl ?_ ?_ rfl rfl
  ·
   exact congrArg (fun p => g.k.filter p) (funext fun y => (ygg hm g.fin y).symm)
  ·
   exact congrArg (fun p => g.j.filter p) (funext fun y => (ygf hm g.fin y).symm)
 have HFi : Hid (∀ W, SlE Ene W (sv x.t.n) g.t → Calls Tryz.prog 21 #[.agg (tr ⟨x.t.n⟩), .agg (rc g.fin.root)] W fun e w' => e = .returned (.int .i64 I) ∧ Below W.heap.size W w') := by
  show ∀ _, _
  rw [hI]
  exact fun W hh => zdh x.t.n g.t g.fin.root W hh
 have HCu : Hid (∀ W, SlE Ene W (sv x.t.n) g.t → Calls Tryz.prog 166 #[.agg (tr ⟨x.t.n⟩), .int .i64 I] W (zt0 P W)) := by
  show ∀ _, _
  rw [hP, hI]
  exact fun W hh => yio x.t.n g.t (zal g.t g.fin.root) W hh
 have HPn : Hid (P.length ≤ 1000) := by show _ ≤ _; rw [hP]; exact pp.2.1
 have HDr : Hid (∀ u W, SlE Elt W (sv x.v.l) g.v.l → SlE Ert W u (zb7 P) → Calls Tryz.prog 167 #[.agg (vo ⟨x.v.l, g.v.out⟩), u] W (yek V W)) := by
  show ∀ _, _
  rw [show V = zmn g.v (zb7 P) by rw [hV, hP]; rfl]
  exact fun u W h1 h2 => ydw x.v.l u g.v (zb7 P) W h1 h2 (by omega) (by rw [zg3]; exact HPn.out)
 have HWt : Hid (∀ s1 s2 u W, SlE Ene W (sv s1) P → SlE Elt W (sv s2) V.l → SlE Enum W u g.bal → Calls Tryz.prog 41 #[.agg (tr ⟨s1⟩), .agg (vo ⟨s2, V.out⟩), u] W (NumsOk WW (fitB P V g.bal) W)) := by
  show ∀ _, _
  rw [hWW]
  exact fun s1 s2 u W h1 h2 h3 => zky s1 s2 u P V g.bal W h1 h2 h3
 have HKn : Hid (g.k.length ≤ 2000 ∧ g.j.length ≤ 2000) := ⟨by omega, by omega⟩
 rw [← hG, ← hR]
 obtain ⟨T, hT⟩ : ∃ T, T = w.heap.size + 1 := ⟨_, rfl⟩
 obtain ⟨Q, hQ⟩ : ∃ Q, Q = w.heap.size + 2 := ⟨_, rfl⟩
 have HTQ : Hid (T = w.heap.size + 1 ∧ Q = w.heap.size + 2) := ⟨hT, hQ⟩
 rw [← hQ, ← hT] at A
 clear hW0 hB q0 q2 h hBw m hj sh pp e0 hG hR hP hV hWW hI
 go_enter Tryz.func133, Tryz.ntmps133
 go_upto_region 1 with fail
 rw [← HW.out, ← hQ, ← hT]
 clear hT hQ
 have hwB : T ≤ W0.heap.size := Nat.le_of_lt A.out.lT
 have Q1 := fun p : Wd W0.drew => za8 A.out.s.v.zT (by decide) p
 have Q3 := fun p : Wd W0.drew => za8 A.out.s.v.zr (by decide) p
 refine zeu T [1, 3, 6] [7, 8, 10] (by kernel_rfl) (by kernel_rfl) (by kernel_rfl) ?_
 repeat (first | (refine zcf rfl rfl rfl hwB ?_; (first | go_big_quiet_step (fail) | quiet_step (fail)); refine wpQuiet_nil ?_) | (refine zem rfl rfl rfl hwB ?_; (first | go_big_quiet_step (fail) | quiet_step (fail)); refine wpQuiet_nil ?_))
 refine zi0 rfl rfl rfl zrx #[.agg (tr ⟨x.t.n⟩), .agg (rc g.fin.root)] rfl ?_
 refine (HFi.out _ (zad (zak (Below.refl _ _) 1) A.out.s.l.t)).mono ?_
 rintro e u ⟨rfl, gu⟩
 refine ⟨_, rfl, gu, ?_⟩
 simp only [Act.put, List.setIfInBounds_toArray, List.set_cons_zero, List.set_cons_succ]
 have GU : Hid (Below W0.heap.size W0 u) := zac (zak (Below.refl _ _) 1) gu
 clear gu
 refine zi0 rfl rfl rfl zup #[.agg (tr ⟨x.t.n⟩), .int .i64 I] rfl ?_
 refine (HCu.out _ (zad GU.out A.out.s.l.t)).mono ?_
 rintro e u2 ⟨s1, rfl, ho, gu⟩
 refine ⟨_, rfl, gu, ?_⟩
 simp only [Act.put, List.setIfInBounds_toArray, List.set_cons_zero, List.set_cons_succ]
 have HTn : Hid (∀ b, (sv s1).ownBlock = some b → w.heap.size ≤ b) := fun b hb => by
  have h1 := (zbi ho hb).1
  have h2 := GU.out.size
  have h3 := A.out.s.bw.size
  omega
 replace GU := Lib.hid (zac GU.out gu)
 replace A := Lib.hid (A.out.keep GU.out)
 have ht := zat ho
 clear gu GU
 refine zcf rfl rfl rfl hwB ?_
 (first | go_big_quiet_step (fail) | quiet_step (fail)); refine wpQuiet_nil ?_
 have A3 := A.out.putT ht
 have wt := A.out.s.wr 0 1 (by decide)
 obtain ⟨w3, hw3⟩ : ∃ w3, w3 = stA u2 (.pointer (some ⟨T, 0, none⟩)) (.agg (tr ⟨s1⟩)) := ⟨_, rfl⟩
 rw [← hw3] at A3
 have HW3 := Lib.hid hw3
 refine zjl rfl rfl w3 (by rw [HW3.out]; go_simp) (zd5 (by kernel_rfl) (by rw [HW3.out]; exact zap (Below.refl _ _) (Nat.le_refl _))) ?_
 simp only [Act.put]
 refine zo2 ?_
 replace A := Lib.hid A3
 clear A3 wt hw3 HW3 ht ho Q1 Q3 hwB HFi HCu
 have zT := A.out.s.v.zT
 dsimp only at zT
 have HRo := Lib.hid (zq7 s1 P w3 A.out.s.l.t HPn.out)
 go_wp2_with fail
 refine HRo.out.mono ?_
 rintro e w4 ⟨stv, rfl, ho, gg⟩
 have HSn : Hid (∀ b, stv.ownBlock = some b → w.heap.size ≤ b ∧ b ≠ T) := fun b hb => by
  have h1 := (zbi ho hb).1
  have h2 := A.out.s.bw.size
  have h3 := A.out.lT
  exact ⟨by omega, by omega⟩
 replace A := Lib.hid (A.out.keep gg)
 have HSt := Lib.hid (zat ho)
 obtain ⟨nst, hnst⟩ : ∃ n, (zb7 P).length = n := ⟨_, rfl⟩
 obtain ⟨pst, cst, hst⟩ := z1v (zat ho) hnst
 rw [hst]
 have HSd := Lib.hid hst
 clear gg zT ho HRo hnst hst
 go_upto_region 3 with fail
 rw [← HSd.out]
 obtain ⟨w5, hw5⟩ : ∃ w5, w5 = w4.alloc (.cells #[stv] 130) := ⟨_, rfl⟩
 rw [← hw5]
 have gg : Below w4.heap.size w4 w5 := by rw [hw5]; exact below1
 have X6 : Hid (w5.heap[w4.heap.size]? = some (.cells #[stv] 130 (0, 0))) := by show _ = _; rw [hw5]; exact heap_alloc_last _ _
 have H6 : Hid (w4.heap.size ≠ T ∧ w.heap.size ≤ w4.heap.size) := by
  have := A.out.lT
  exact ⟨by omega, A.out.s.bw.size⟩
 replace A := Lib.hid (A.out.keep gg)
 replace HSt := Lib.hid (zad gg HSt.out)
 obtain ⟨T6, hT6⟩ : ∃ n, n = w4.heap.size := ⟨_, rfl⟩
 rw [← hT6] at X6 H6 ⊢
 clear gg hw5 hT6
 have zV := A.out.s.v.zV
 have y6 := zoh X6.out
 dsimp only at zV
 go_wp2_with fail
 refine (HDr.out stv _ A.out.s.l.v HSt.out).mono ?_
 rintro e w6 ⟨s2, rfl, ho, gg⟩
 have HVn : Hid (∀ b, (sv s2).ownBlock = some b → w.heap.size ≤ b) := fun b hb => by
  have h1 := (zbi ho hb).1
  have h2 := A.out.s.bw.size
  omega
 replace A := Lib.hid (A.out.keep gg)
 replace HSt := Lib.hid (zad gg HSt.out)
 replace X6 := Lib.hid (zab gg X6.out)
 have hv := zat ho
 clear gg zV y6 ho HDr
 have wv := A.out.s.wr 2 2 (by decide)
 go_upto_region 4 with fail
 have A6 := A.out.putV (v := V) hv
 have X6' := (zcq (W := w6) (T := T) (.agg (vo ⟨s2, V.out⟩)) 2 T6 H6.out.1).trans X6.out
 have HSt' : SlE Ert (stA w6 (.pointer (some ⟨T, 2, none⟩)) (.agg (vo ⟨s2, V.out⟩))) stv (zb7 P) := zd6 HSt.out (zfd _ _) fun b _ e => zcq _ _ b (fun e2 => (HSn.out b e).2 e2)
 obtain ⟨w7, hw7⟩ : ∃ w7, w7 = stA w6 (.pointer (some ⟨T, 2, none⟩)) (.agg (vo ⟨s2, V.out⟩)) := ⟨_, rfl⟩
 rw [← hw7] at A6 X6' HSt' ⊢
 replace A := Lib.hid A6
 replace X6 := Lib.hid X6'
 replace HSt := Lib.hid HSt'
 clear A6 X6' HSt' hw7 wv hv
 have zT := A.out.s.v.zT
 have zV := A.out.s.v.zV
 have zb := A.out.s.v.zb
 dsimp only at zT zV zb
 have HlQ := Lib.hid (And.intro A.out.lR A.out.lT)
 have l1 := A.out.s.l
 go_wp2_with fail
 refine (HWt.out _ _ _ _ l1.t l1.v l1.bal).mono ?_
 rintro e w8 ⟨vw, rfl, ho, gg⟩
 obtain ⟨s3, rfl⟩ := zho ho
 have HWn : Hid (∀ b, (sv s3).ownBlock = some b → w.heap.size ≤ b) := fun b hb => by
  have h1 := (zbi ho hb).1
  have h2 := A.out.s.bw.size
  omega
 replace A := Lib.hid (A.out.keep gg)
 replace HSt := Lib.hid (zad gg HSt.out)
 replace X6 := Lib.hid (zab gg X6.out)
 have OW := Lib.hid ho
 clear gg zT zV zb l1 ho HWt
 have zw := A.out.s.v.zw
 have fw := A.out.s.fz 4
 obtain ⟨⟨p3, n3, c3⟩, hs3⟩ : ∃ q : SlV, q = s3 := ⟨_, rfl⟩
 rw [← hs3, za7]
 go_upto_region 5 with fail
 obtain ⟨w9, hw9⟩ : ∃ w9, w9 = w8.setCell ⟨T, 4, none⟩ (.slice p3 n3 c3) := ⟨_, rfl⟩
 rw [← hw9]
 rw [← za7, hs3] at hw9
 have A9 := A.out.putW OW.out HlQ.out.1 HlQ.out.2
 have X6' := (zcb (W := w8) (T := T) (sv s3) 4 T6 H6.out.1).trans X6.out
 have HSt' : SlE Ert (w8.setCell ⟨T, 4, none⟩ (sv s3)) stv (zb7 P) := z1u HSt.out (fun e => (HSn.out T e).2 rfl)
 rw [← hw9] at A9 X6' HSt'
 have OK : Hid (OwnE Elk w9 B (sv x.k) g.k ∧ OwnE Ecc w9 B (sv x.j) g.j) := ⟨zam A9.s.bw HO.out.k, zam A9.s.bw HO.out.j⟩
 obtain ⟨y, hy⟩ : ∃ y : En, y = { x with t := ⟨s1⟩, v := ⟨s2, V.out⟩, w := s3 } := ⟨_, rfl⟩
 obtain ⟨gy, hgy⟩ : ∃ gy : Eg, gy = { g with t := P, v := V, w := WW } := ⟨_, rfl⟩
 have PR : Hid (Pr w w9 B T Q T6 x y gy stv (zb7 P)) := by
  show Pr _ _ _ _ _ _ _ _ _ _ _
  rw [hy, hgy]
  exact {
      box := A9.s.box, r := A9.r, l := A9.s.l, f := A9.s.f, fr := A9.fr, ff := fun U hU => ⟨A9.ff U hU (HO.out.far hU), A9.s.bw.block U hU.lt⟩, bw := A9.s.bw.mono HBw.out, sz := A9.s.bw.size, s6 := X6', sl := HSt', sn := fun b e => (HSn.out b e).1, sT := fun e => (HSn.out T e).2 rfl,
      tn := HTn.out, vn := HVn.out, wn := HWn.out, kn := fun b e => e, bal := rfl, late := rfl, lo := A9.s.lo, lr := A9.lr, l6 := H6.out.2, n6 := H6.out.1, nr := A9.ne }
 have HY : Hid (y.k = x.k ∧ y.j = x.j ∧ y.fin = g.fin) := ⟨by rw [hy], by rw [hy], by rw [hy]; exact HO.out.fin⟩
 have HGy := Lib.hid hgy
 have HKl : Hid (∀ b, (sv y.k).ownBlock = some b → b < w.heap.size) := fun b e => by rw [HY.out.1] at e; exact (zbi HO.out.k e).2
 have HJl : Hid (∀ b, (sv y.j).ownBlock = some b → b < w.heap.size) := fun b e => by rw [HY.out.2.1] at e; exact (zbi HO.out.j e).2
 clear A9 X6' HSt' hw9 zw fw OW HlQ hs3 hy hgy A X6 HSt HSn HTn HVn HWn
 have HDk : Hid (Calls Tryz.prog 168 #[sv y.k, .func (.func 169) #[] #[.pointer (some ⟨T6, 0, none⟩), .pointer (some ⟨T, 0, none⟩)]] w9 (DelK (goK (zb7 P) g.fin) g.k (sv y.k) w9)) := by
  refine delK 169 #[.pointer (some ⟨T6, 0, none⟩), .pointer (some ⟨T, 0, none⟩)] (goK (zb7 P) g.fin) zmw B (sv y.k) g.k w9 (by rw [HY.out.1]; exact OK.out.1) HKn.out.1 fun q W hg => ?_
  obtain ⟨h1, h2, h3⟩ := PR.out.grown HKl.out hg
  rw [← HY.out.2.2]
  exact z7d T6 T stv (zb7 P) y q W h1 h2 (by rw [zg3]; have := HPn.out; omega) h3
 have zk := zk1 PR.out.box
 go_wp2_with fail
 refine HDk.out.mono ?_
 rintro e w10 ⟨vk, rfl, hk, hb, hg⟩
 obtain ⟨s5, rfl⟩ : ∃ s : SlV, vk = sv s := by
  obtain ⟨p, q, e, _⟩ := zar hk
  exact ⟨⟨p, _, q⟩, e⟩
 have S := Lib.hid (PR.out.stepK HO.out HBw.out HY.out.1 HY.out.2.1 OK.out.2 hg hk hb)
 have hbx : w10.heap[T]? = some (.cells (en y) 38 (0, 0)) := (PR.out.grown HKl.out hg).2.2
 have zk2 := zk1 hbx
 have fk := frozen_of_row w10 T 6 _ _ hbx
 obtain ⟨⟨p5, n5, c5⟩, hs5⟩ : ∃ q : SlV, q = s5 := ⟨_, rfl⟩
 rw [← hs5, za7]
 clear zk hk hb hg hbx HDk
 go_upto_region 6 with fail
 obtain ⟨w11, hw11⟩ : ∃ w11, w11 = w10.setCell ⟨T, 6, none⟩ (.slice p5 n5 c5) := ⟨_, rfl⟩
 rw [← hw11]
 rw [← za7, hs5] at hw11
 rw [← hw11] at S
 obtain ⟨z, hz⟩ : ∃ z : En, z = { y with k := s5 } := ⟨_, rfl⟩
 obtain ⟨gz, hgz⟩ : ∃ gz : Eg, gz = { gy with k := g.k.filter (fun q => !goK (zb7 P) g.fin q) } := ⟨_, rfl⟩
 have PS : Hid (Pr w w11 B T Q T6 x z gz stv (zb7 P)) := by show Pr _ _ _ _ _ _ _ _ _ _ _; rw [hz, hgz]; exact S.out.1
 have OJ : Hid (OwnE Ecc w11 B (sv x.j) g.j) := S.out.2
 have HZ : Hid (z.j = x.j ∧ z.fin = g.fin) := ⟨by rw [hz]; exact HY.out.2.1, by rw [hz]; exact HY.out.2.2⟩
 have HGz := Lib.hid hgz
 have HJz : Hid (∀ b, (sv z.j).ownBlock = some b → b < w.heap.size) := fun b e => by rw [HZ.out.1] at e; exact (zbi HO.out.j e).2
 clear S zk2 fk hs5 hw11 hz hgz PR OK HKl HJl
 have HDj : Hid (Calls Tryz.prog 159 #[sv z.j, .func (.func 170) #[] #[.pointer (some ⟨T6, 0, none⟩), .pointer (some ⟨T, 0, none⟩)]] w11 (DelC (goJ (zb7 P) g.fin) g.j (sv z.j) w11)) := by
  refine delC 170 #[.pointer (some ⟨T6, 0, none⟩), .pointer (some ⟨T, 0, none⟩)] (goJ (zb7 P) g.fin) zmx B (sv z.j) g.j w11 (by rw [HZ.out.1]; exact OJ.out) HKn.out.2 fun q W hg => ?_
  obtain ⟨h1, h2, h3⟩ := PS.out.grown HJz.out hg
  rw [← HZ.out.2]
  exact z7e T6 T stv (zb7 P) z q W h1 h2 (by rw [zg3]; have := HPn.out; omega) h3
 have zj := zk0 PS.out.box
 go_wp2_with fail
 refine HDj.out.mono ?_
 rintro e w12 ⟨vj, rfl, hk, hb, hg⟩
 obtain ⟨s6, rfl⟩ : ∃ s : SlV, vj = sv s := by
  obtain ⟨p, q, e, _⟩ := zar hk
  exact ⟨⟨p, _, q⟩, e⟩
 have S := Lib.hid (PS.out.stepJ HO.out HBw.out HZ.out.1 hg hk hb)
 have hbx : w12.heap[T]? = some (.cells (en z) 38 (0, 0)) := (PS.out.grown HJz.out hg).2.2
 have zj2 := zk0 hbx
 have fj := frozen_of_row w12 T 7 _ _ hbx
 obtain ⟨⟨p6, n6, c6⟩, hs6⟩ : ∃ q : SlV, q = s6 := ⟨_, rfl⟩
 rw [← hs6, za7]
 clear zj hk hb hg hbx HDj
 go_upto_region 7 with fail
 obtain ⟨w13, hw13⟩ : ∃ w13, w13 = w12.setCell ⟨T, 7, none⟩ (.slice p6 n6 c6) := ⟨_, rfl⟩
 rw [← hw13]
 rw [← za7, hs6] at hw13
 rw [← hw13] at S
 obtain ⟨v, hv⟩ : ∃ v : En, v = { z with j := s6 } := ⟨_, rfl⟩
 rw [← hv] at S
 clear zj2 fj hs6 hw13 hv PS OJ
 have zz := zag S.out.box (zbc v)
 have wr := S.out.wrR
 go_wp2_with fail
 have EE := S.out.ret HBw.out 0
 rw [HGR.out.2, show G = { gz with j := g.j.filter (fun q => !goJ (zb7 P) g.fin q) } by rw [HGR.out.1, HGz.out, HGy.out]]
 exact bodyPost_ret (zbb Tryz.isAgg38 Tryz.sizeOf38 _ 4 5 rfl _ _ _ _ _ rfl rfl S.out.out) rfl EE
theorem zkb : ∀ args w, (callFunc 133 args).run Tryz.prog w = .ok (.enter 133 args) w := zbe Tryz.func133 (by kernel_rfl) (by kernel_rfl)
open Go.RowKit
section
variable {P : Program} {ops : Array Oper} {E S1 : List Nat} {W : World} {Q : Exit → Act → World → Prop}
theorem z8k {B : Nat} {k : Nat} {o : Oper} {rest : List Oper} {a : Act} {w : World} {σ : List (Nat × World)} (hE : E.contains k = true) (hw : Region.wanted o (yielded ops a.tmps) = true) {f : FuncId} {t : Operand} {xs : Array Operand} {ts : Array TypeId}
  (ho : o.op = .call { callee := .value t, args := xs, argTypes := ts }) (ht : a.eval t = .func (.func f) #[] #[]) (hen : ∀ args w, (callFunc f args).run P w = .ok (.enter f args) w)
  (args : Array Value) (hargs : xs.toList.map a.eval = args.toList) (hl : zhs ops S1 o = true) (h : Calls P f args w fun e w' => ∃ v, e = .returned v ∧ Below B w w' ∧ wpXT (La B) (Lb B) S1 P ops E W Q (k + 1) rest (a.put o.dst v) w' ((k, w') :: σ)) : wpXT (La B) (Lb B) S1 P ops E W Q k (o :: rest) a w σ := by
 unfold wpXT
 rw [if_pos hw, if_pos hE]
 unfold zd0
 have hargs : xs.map a.eval = args := Array.toList_inj.1 (by rw [Array.toList_map]; exact hargs)
 subst hargs
 have : (execOp a.eval o).run P w = .ok (.enter f (xs.map a.eval)) w := by
  unfold execOp
  simp [ho, resolve, invoke, ht, Deferred.ofValue, hen]
 rw [this]
 exact Calls.mono h fun e w' ⟨v, he, hb, hk⟩ => ⟨v, he, zd5 hl hb, hk⟩
end
end Go.Proofs.YtkalofboioffiaaGreat
