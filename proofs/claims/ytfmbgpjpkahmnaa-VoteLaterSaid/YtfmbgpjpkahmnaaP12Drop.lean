/-
  Package vote: Drop, walked.
-/
import Derived.Test.YtfmbgpjpkahmnaaP12Put
import Derived.Test.YtfmbgpjpkahmnaaKeyR
import Derived.Maps.OwnOps
namespace Go.Proofs.Ytfmbgpjpkahmnaa
open Go.RowKit Go.Maps

theorem run_makeMapV {P : Program} {T k e : TypeId} (hu : P.underlying T = some (.map k e)) (n : Int) (w : World) : (Instr.makeMap T (some (.int .i64 n))).run P w = .ok (.map (some w.heap.size)) (w.alloc (.map #[] 0)) := by
  simp only [Instr.makeMap]
  simp [run_underlying hu, asInt]
  rfl
theorem zeroUnitV (w : World) : (zeroValue 54).run Try.prog w = .ok (.agg #[]) w := by kernel_rfl
/-- The first k roots, as a set. -/
def setD (l : List Rt) : Nat → DataW Unit
  | 0 => .map []
  | k + 1 => (setD l k).put (rk (rtAt l k)) (.agg [])
theorem setD_tidy (l : List Rt) : ∀ k, Tidy (setD l k)
  | 0 => tidy_empty
  | k + 1 => (setD_tidy l k).put (isKey_rk _) _
theorem setD_has (l : List Rt) (r : Rt) : ∀ k, Maps.has (setD l k) (rk r) = true ↔ ∃ i, i < k ∧ rtAt l i = r
  | 0 => ⟨fun h => (by cases h), fun ⟨_, h, _⟩ => absurd h (Nat.not_lt_zero _)⟩
  | k + 1 => by
    unfold setD
    by_cases e : rtAt l k = r
    · rw [e, has_put_same (setD_tidy l k).isMap (isKey_rk r)]
      exact ⟨fun _ => ⟨k, Nat.lt_succ_self k, e⟩, fun _ => rfl⟩
    · rw [has_put_other (fun h => e (rk_inj h).symm), setD_has l r k]
      constructor
      · rintro ⟨i, hi, h⟩; exact ⟨i, by omega, h⟩
      · rintro ⟨i, hi, h⟩
        rcases Nat.lt_succ_iff_lt_or_eq.1 hi with h1 | rfl
        · exact ⟨i, h1, h⟩
        · exact absurd h e
theorem setD_all (l : List Rt) (r : Rt) : Maps.has (setD l l.length) (rk r) = decide (r ∈ l) := by
  rw [Bool.eq_iff_iff, setD_has, decide_eq_true_iff, List.mem_iff_getElem]
  constructor
  · rintro ⟨i, hi, h⟩; exact ⟨i, hi, by rw [← rtAt_in hi]; exact h⟩
  · rintro ⟨i, hi, h⟩; exact ⟨i, hi, by rw [rtAt_in hi]; exact h⟩
theorem ownsMap_other {H : Type} {P : Program} {k : TypeId} {R : Value → Option (DataW H × List MemPlace)} {b n : Nat} {D : DataW H} {W W' : World} (h : W.ownsMap P k R b n D) (e : W'.heap[b]? = W.heap[b]?) : W'.ownsMap P k R b n D := by
  obtain ⟨es, clock, hb, h2⟩ := h
  exact ⟨es, clock, e.trans hb, h2⟩
theorem ownsMap_row {H α : Type} {E : Lie α} {P : Program} {k : TypeId} {R : Value → Option (DataW H × List MemPlace)} {b n base g m c : Nat} {D : DataW H} {W : World} {l : List α} (h : W.ownsMap P k R b n D) (ho : OwnE E W base (.slice (some ⟨g, 0, none⟩) m c) l) : b ≠ g := by
  rintro rfl
  obtain ⟨es, clock, hb, _⟩ := h
  rcases ho.2 with ⟨e, _⟩ | ⟨g', cap, cur, e, _, hg, _⟩
  · cases e
  · injection e with e
    injection e with e
    injection e with e
    subst e
    rw [hb] at hg
    cases hg
theorem Ow.postIs {w W : World} {R O : Nat} {s : SlV} {x V : Vt} (h : Ow w W R O s x) (e : V = x) : VoIs V w (.returned (.agg (vo ⟨s, x.out⟩))) (stA W (.pointer (some ⟨R, 0, none⟩)) (.agg (vo ⟨s, x.out⟩))) := by
  subst e
  exact ⟨s, rfl, ownE_slE (ownE_stA h.own (Nat.lt_succ_self _)), below_stA h.g h.lr⟩
theorem elem_lt {w : World} {base g n c : Nat} {l : List Lt} (h : OwnE Elt w base (.slice (some ⟨g, 0, none⟩) n c) l) {j : Nat} (hj : j < l.length) : ldA w (.pointer (some ⟨g, j * 34, none⟩)) 34 = some (lt (lat l j)) := by
  obtain ⟨b1, o1, e, _, x⟩ := lats_ptr (ownE_slE h) (by omega)
  injection e with e
  injection e with e1 e2
  subst e1 e2
  have := lats_ld x hj
  rwa [Nat.zero_add] at this

set_option maxRecDepth 100000 in
set_option maxHeartbeats 16000000 in
theorem voteDropP_n (p q : Option Addr) (n cp m ck : Nat) (v : Vt) (keep : List Rt) (w : World) (h : SlE Elt w (.slice p n cp) v.l) (hk : SlE Ert w (.slice q m ck) keep) (hl : v.l.length = n) (hm : keep.length = m) (hn : n ≤ 1000) (hm1 : m ≤ 1000) :
    Calls Try.prog 13 #[.agg (vo ⟨⟨p, n, cp⟩, v.out⟩), .slice q m ck] w (VoIs (dropV v keep) w) := by
  have hmm := run_makeMapV (P := Try.prog) Try.underlying53
  obtain ⟨W0, hW0⟩ : ∃ W0, W0 = (w.alloc (.cells (vo ⟨⟨p, n, cp⟩, v.out⟩) 25)).alloc (.cells (vo zvo) 25) := ⟨_, rfl⟩
  obtain ⟨hB, hA, hR, hZ⟩ := heap2 w _ _ _ _ W0 hW0
  have A : Hid (Vw w W0 w.heap.size ⟨p, n, cp⟩ v) := ⟨hA, slE_keep hB h, hB⟩
  have R0 : Hid (W0.heap[w.heap.size + 1]? = some (.cells (vo zvo) 25 (0, 0))) := hR
  have K := Lib.hid (slE_keep hB hk)
  have HCp := Lib.hid (voteCopied ⟨p, n, cp⟩ v W0 A.out.s (by omega))
  have HM := Lib.hid (fun W (hP : Vw w W w.heap.size ⟨p, n, cp⟩ v) => voteMay ⟨p, n, cp⟩ v W hP.s)
  have HZ : Hid (W0.heap.size = w.heap.size + 1 + 1) := hZ
  have HW := Lib.hid hW0
  have HL := Lib.hid hl
  have HK := Lib.hid hm
  have HN := Lib.hid hn
  have HN1 := Lib.hid hm1
  obtain ⟨dv, hdv⟩ : ∃ dv, dv = dropV v keep := ⟨_, rfl⟩
  rw [← hdv]
  have HD := Lib.hid hdv
  obtain ⟨may, hmay⟩ : ∃ b, b = mayV v := ⟨_, rfl⟩
  have HB := Lib.hid hmay
  rw [← hmay] at HM
  have H1 : Hid (may = true → 1 ≤ n) := fun e => by rw [← HL.out]; exact (mayV_iff.1 (HB.out.symm.trans e)).1
  have z1 := A.out.z1
  clear hW0 h hk hl hm hn hm1 hdv hmay hB hA hR hZ
  go_enter Try.func13, Try.ntmps13
  go_upto_region 1 with fail
  rw [← HW.out]
  go_wp2_with fail
  refine HCp.out.mono ?_
  rintro e1 w1 ⟨s2, rfl, ho, g⟩
  go_upto_region 2 with fail
  obtain ⟨w2, hw2⟩ : ∃ w2, w2 = w1.alloc (.cells (vo ⟨s2, v.out⟩) 25) := ⟨_, rfl⟩
  rw [← hw2]
  have Q : Hid (Ow w w2 (w.heap.size + 1) w1.heap.size s2 v) := ow_new A.out.g R0.out HZ.out (by omega) ho g hw2 rfl
  have g2 : Below W0.heap.size W0 w2 := belowT g (by rw [hw2]; exact below1)
  replace A := Lib.hid (A.out.keep g2)
  replace K := Lib.hid (slE_keep g2 K.out)
  obtain ⟨O, hO⟩ : ∃ O, O = w1.heap.size := ⟨_, rfl⟩
  rw [← hO] at Q ⊢
  clear hw2 ho g z1 hO HCp g2
  have z1 := A.out.z1
  go_wp2_with fail
  refine (HM.out _ A.out).mono ?_
  rintro e1 w3 ⟨rfl, g⟩
  replace Q := Lib.hid (Q.out.keep g)
  replace K := Lib.hid (slE_keep g K.out)
  clear g z1 A
  cases may
  · have HV : Hid (dv = v) := by show dv = v; rw [HD.out]; unfold dropV; rw [← HB.out]; rfl
    have y1 := (vo_cells Q.out.o).2.2.1
    have z2 := wrA_block Q.out.r (vo_size _)
    go_wp2_with fail
    exact bodyPost_ret (results_agg1 Try.isAgg25 Try.sizeOf25 _ 4 rfl _ _ _ _ rfl (ldA_block (heap_putV Q.out.r (by rw [vo_size, vo_size])) (vo_size _))) rfl (Q.out.postIs HV.out)
  · have HV : Hid (∀ l' : List Lt, l'.length = n → (∀ x, lat l' x = if x < n then (if stayB keep (lat v.l x) = true then lat v.l x else zlt) else lat v.l x) → dv = ⟨l', v.out⟩) := fun l' e1 e2 => by
      rw [HD.out]; unfold dropV; rw [← HB.out, if_pos rfl]
      refine Vt.ext (lat_ext (by rw [List.length_map, e1, HL.out]) fun i hi => ?_) rfl
      show lat (v.l.map _) i = lat l' i
      have hi' : i < n := by have : i < l'.length := hi; omega
      rw [lat_map (by rw [HL.out]; exact hi'), e2, if_pos hi']
    obtain ⟨g2, c2, rfl⟩ : ∃ g2 c2 : Nat, s2 = ⟨some ⟨g2, 0, none⟩, n, c2⟩ := by
      obtain ⟨g2, c2, e, _⟩ := ownT_form Q.out.own HL.out (H1.out rfl)
      obtain ⟨sp, sn, sc⟩ := s2
      rw [sv_mk] at e
      injection e with e1 e2 e3
      exact ⟨g2, c2, by rw [e1, e2, e3]⟩
    clear HM
    go_wp2_with fail
    go_loopw [24] (fun i wr => ∃ j : Nat, j ≤ m ∧ i = .int .i64 (j : Int) ∧ wr.ownsMap Try.prog 27 (unitElem (H := Unit)) w3.heap.size j (setD keep j) ∧ Below w3.heap.size w3 wr ∧ w3.heap.size + 1 ≤ wr.heap.size) (fun i _ => m - (intOf i).toNat)
    case atStart => exact ⟨0, Nat.zero_le _, rfl, World.ownsMap_made _ _ _ _, below1, by simp⟩
    case round =>
      obtain ⟨j, hj, rfl, hown, hb, hsz⟩ := hrel
      have HO := Lib.hid hown
      have HBB := Lib.hid hb
      have HSZ := Lib.hid hsz
      clear hown hb hsz
      by_cases hlt : j < m
      · have i0 : (0 : Int) ≤ (j : Int) := by omega
        have i1 : (j : Int) < (m : Int) := by omega
        have u1 : (j : Int) + 1 < 10000 := by have := HN1.out; omega
        obtain ⟨b1, o1, rfl, q1, x1⟩ := rts_ptr K.out (by have := HK.out; omega)
        have y1 := Go.Proofs.Ytfmbgpjpkahmnaa.keep HBB.out (rts_ld x1 (i := j) (by have := HK.out; omega))
        have HXn : Hid (∃ x, x = rtAt keep j) := ⟨_, rfl⟩
        clear x1 q1
        obtain ⟨x, hx⟩ := HXn.out
        rw [← hx] at y1
        have HXx := Lib.hid hx
        clear HXn hx
        go_wp2_with (at_mapUpdate; refine wpList_mapUpdate_own _ rfl _ _ _ 53 rfl 27 54 keyed_root Try.underlying53 (unitElem (H := Unit)) w3.heap.size j _ rfl (HO.out.alloc _) (by unfold maxLen; omega) _ _ _ rfl rfl (key_root x) _ [] unitElem_mk ?_; intro w4 hown1 hgrow1)
        have hs4 := hgrow1.size
        simp at hs4
        go_roundw
        case rel => exact ⟨j + 1, by omega, by go_num, by unfold setD; rw [← HXx.out]; exact hown1, (belowT HBB.out below1).grown hgrow1 (by have := HSZ.out; simp; omega) (fun k hk => by cases hk; exact Nat.le_refl _), by have := HSZ.out; omega⟩
        case measure => simp [intOf]; omega
      · obtain rfl : j = m := by omega
        have HHas : Hid (∀ r, Maps.has (setD keep j) (rk r) = decide (r ∈ keep)) := fun r => by rw [← HK.out]; exact setD_all keep r
        replace Q := Lib.hid (Q.out.keep HBB.out)
        obtain ⟨D, hD⟩ : ∃ D, D = setD keep j := ⟨_, rfl⟩
        obtain ⟨B, hB⟩ : ∃ B, B = w3.heap.size := ⟨_, rfl⟩
        rw [← hD] at HO HHas
        rw [← hB] at HO ⊢
        clear hlt HBB HSZ K hD hB
        have y0 := (vo_cells Q.out.o).1
        dsimp only at y0
        rw [sv_mk] at y0
        go_wp2_with fail
        go_loopw [35] (fun i wr => ∃ x : Nat, x ≤ n ∧ i = .int .i64 (x : Int) ∧ ∃ l', Ow w wr (w.heap.size + 1) O ⟨some ⟨g2, 0, none⟩, n, c2⟩ ⟨l', v.out⟩ ∧ l'.length = n ∧ (∀ y, lat l' y = if y < x then (if stayB keep (lat v.l y) = true then lat v.l y else zlt) else lat v.l y) ∧ wr.ownsMap Try.prog 27 (unitElem (H := Unit)) B j D) (fun i _ => n - (intOf i).toNat)
        case atStart => exact ⟨0, Nat.zero_le _, rfl, v.l, Q.out, HL.out, fun y => by rw [if_neg (Nat.not_lt_zero _)], HO.out⟩
        case round =>
          obtain ⟨x, hx, rfl, l', hQ, hl', hlat, hown⟩ := hrel
          replace Q := Lib.hid hQ
          replace HO := Lib.hid hown
          have HX := Lib.hid hlat
          have HL' := Lib.hid hl'
          clear hQ hl' hlat hown y0
          by_cases hlt : x < n
          · have i0 : (0 : Int) ≤ (x : Int) := by omega
            have i1 : (x : Int) < (n : Int) := by omega
            have u1 : (x : Int) + 1 < 10000 := by have := HN.out; omega
            have HLT := Lib.hid hlt
            have y1 := elem_lt Q.out.own (j := x) (by rw [HL'.out]; exact hlt)
            have e1 : lat l' x = lat v.l x := by rw [HX.out x, if_neg (Nat.lt_irrefl _)]
            obtain ⟨z, hz⟩ : ∃ z, z = lat v.l x := ⟨_, rfl⟩
            rw [e1, ← hz] at y1
            have HZz := Lib.hid hz
            clear e1 hz hlt
            go_upto_region 13 with fail
            obtain ⟨w5, hw5⟩ : ∃ w5, w5 = wr.alloc (.cells (lt z) 41) := ⟨_, rfl⟩
            rw [← hw5]
            have hz5 : w5.heap[wr.heap.size]? = some (.cells (lt z) 41 (0, 0)) := by rw [hw5]; exact heap_alloc_last wr _
            replace Q := Lib.hid (Q.out.keep (W' := w5) (by rw [hw5]; exact below1))
            replace HO := Lib.hid (ownsMap_keep (w1 := w5) (by rw [hw5]; exact below1) HO.out)
            have z2 := (lt_cells hz5).2.1
            clear hw5 hz5 y1
            have hst : stayB keep z = decide (z.root ∈ keep) := rfl
            have hh := HHas.out z.root
            rw [← hst] at hh
            obtain ⟨t, ht⟩ : ∃ t, t = stayB keep z := ⟨_, rfl⟩
            rw [← ht] at hh
            have HT := Lib.hid ht
            obtain ⟨ρ, hρ⟩ : ∃ ρ, ρ = z.root := ⟨_, rfl⟩
            rw [← hρ] at z2 hh
            clear hst ht hρ
            cases t
            · have yw := (Q.out.keep below1).wr (W := w5.alloc (.cells #[] 54)) HL'.out HLT.out
              have y0 := (vo_cells (Q.out.keep (below1 (o := .cells #[] 54))).o).1
              dsimp only at y0
              rw [sv_mk] at y0
              go_upto_region 16 with (at_lookup; refine wpList_lookup_own_unit _ rfl _ _ 53 rfl 27 54 keyed_root Try.underlying53 (zeroUnitV _) B j D rfl HO.out _ _ rfl (key_root ρ) ?_)
              obtain ⟨w6, hw6⟩ : ∃ w6, w6 = stA (w5.alloc (.cells #[] 54)) (.pointer (some ⟨g2, x * 34, none⟩)) (.agg (lt zlt)) := ⟨_, rfl⟩
              rw [← hw6]
              have hbg := ownsMap_row HO.out Q.out.own
              replace HO : Hid (w6.ownsMap Try.prog 27 (unitElem (H := Unit)) B j D) := by rw [hw6]; exact ownsMap_other (ownsMap_keep below1 HO.out) (heap_stA hbg)
              replace Q : Hid (Ow w w6 (w.heap.size + 1) O ⟨some ⟨g2, 0, none⟩, n, c2⟩ ⟨l'.set x zlt, v.out⟩) := by rw [hw6]; exact (Q.out.keep below1).elem HL'.out HLT.out _
              clear hw6 hbg yw y0 z2 hh
              go_wp2_with fail
              go_roundw
              case rel => exact ⟨x + 1, HLT.out, by go_num, l'.set x zlt, Q.out, by rw [List.length_set, HL'.out], (fun y => by
                rw [lat_set (by rw [HL'.out]; exact HLT.out), HX.out y]
                by_cases e : y = x
                · subst e; rw [if_pos rfl, if_pos (Nat.lt_succ_self _), ← HZz.out, ← HT.out]; rfl
                · rw [if_neg e]
                  by_cases e2 : y < x
                  · rw [if_pos e2, if_pos (show y < x + 1 by omega)]
                  · rw [if_neg e2, if_neg (show ¬ y < x + 1 by omega)]), HO.out⟩
              case measure => simp [intOf]; have := HLT.out; omega
            · go_wp2_with (at_lookup; refine wpList_lookup_own_unit _ rfl _ _ 53 rfl 27 54 keyed_root Try.underlying53 (zeroUnitV _) B j D rfl HO.out _ _ rfl (key_root ρ) ?_)
              go_roundw
              case rel => exact ⟨x + 1, HLT.out, by go_num, l', Q.out.keep below1, HL'.out, (fun y => by
                rw [HX.out y]
                by_cases e : y = x
                · subst e; rw [if_neg (Nat.lt_irrefl _), if_pos (Nat.lt_succ_self _), ← HZz.out, ← HT.out]; rfl
                · by_cases e2 : y < x
                  · rw [if_pos e2, if_pos (show y < x + 1 by omega)]
                  · rw [if_neg e2, if_neg (show ¬ y < x + 1 by omega)]), ownsMap_keep below1 HO.out⟩
              case measure => simp [intOf]; have := HLT.out; omega
          · obtain rfl : x = n := by omega
            have HE := Lib.hid (HV.out l' HL'.out HX.out)
            have y1 := (vo_cells Q.out.o).2.2.1
            have z2 := wrA_block Q.out.r (vo_size _)
            clear hlt
            go_wp2_with fail
            exact bodyPost_ret (results_agg1 Try.isAgg25 Try.sizeOf25 _ 4 rfl _ _ _ _ rfl (ldA_block (heap_putV Q.out.r (by rw [vo_size, vo_size])) (vo_size _))) rfl (Q.out.postIs HE.out)
theorem voteDrop (s : SlV) (u : Value) (v : Vt) (keep : List Rt) (w : World) (h : SlE Elt w (sv s) v.l) (hk : SlE Ert w u keep) (hn : v.l.length ≤ 1000) (hm : keep.length ≤ 1000) :
    Calls Try.prog 13 #[.agg (vo ⟨s, v.out⟩), u] w (VoIs (dropV v keep) w) := by
  have hl := sv_lenT h
  have hks := hk
  obtain ⟨q, ck, rfl, _⟩ := slE_shape hk
  obtain ⟨p, n, cp⟩ := s
  dsimp only at hl
  exact voteDropP_n p q n cp _ ck v keep w h hks hl rfl (by omega) hm
end Go.Proofs.Ytfmbgpjpkahmnaa
