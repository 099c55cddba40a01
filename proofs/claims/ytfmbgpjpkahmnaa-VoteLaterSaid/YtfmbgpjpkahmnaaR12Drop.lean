/-
  The document's votes: Drop, walked.
-/
import Derived.Test.YtfmbgpjpkahmnaaR12With
import Derived.Test.YtfmbgpjpkahmnaaR12May
import Derived.Test.YtfmbgpjpkahmnaaRtS
import Derived.Test.YtfmbgpjpkahmnaaRes
namespace Go.Proofs.Ytfmbgpjpkahmnaa
open Go.RowKit

def rtAt (l : List Rt) (i : Nat) : Rt := l.getD i zr
theorem rtAt_in {l : List Rt} {i : Nat} (h : i < l.length) : rtAt l i = l[i] := by unfold rtAt; simp [h]
theorem rts_ptr {w : World} {p : Option Addr} {n cp : Nat} {l : List Rt} (h : SlE Ert w (.slice p n cp) l) (h0 : 0 < l.length) : ∃ b o, p = some ⟨b, o, none⟩ ∧ b < w.heap.size ∧ w.rangeAt b o (cellsE Ert l) := by
  obtain ⟨b, o, c, e, _, q, x⟩ := slE_ne h h0
  injection e with e1 e2 e3
  exact ⟨b, o, e1, q, x⟩
theorem rts_ld {w : World} {b off : Nat} {l : List Rt} (h : w.rangeAt b off (cellsE Ert l)) {i : Nat} (hi : i < l.length) : ldA w (.pointer (some ⟨b, off + i * 32, none⟩)) 32 = some (rc (rtAt l i)) := by
  have := ldA_at h hi
  rw [rtAt_in hi]
  exact this
theorem mem_take {l : List Rt} {x : Nat} (h : x < l.length) (r : Rt) : decide (r ∈ l.take (x + 1)) = (decide (r ∈ l.take x) || decide (rtAt l x = r)) := by
  rw [List.take_succ_eq_append_getElem h, rtAt_in h, Bool.eq_iff_iff, Bool.or_eq_true, decide_eq_true_iff, decide_eq_true_iff, decide_eq_true_iff, List.mem_append, List.mem_singleton, @eq_comm _ r]
theorem lat_map {l : List Lt} {f : Lt → Lt} {i : Nat} (h : i < l.length) : lat (l.map f) i = f (lat l i) := by
  rw [lat_in (by rw [List.length_map]; exact h), lat_in h, List.getElem_map]

/-- What is longer than a box of votes does not lie in it. -/
theorem slE_not_vo {α : Type} {E : Lie α} (hE : 2 < E.n) {w : World} {v : Value} {l : List α} {g : Nat} {x : Vo} {t : TypeId} {fr : Nat × Nat} (h : SlE E w v l) (hg : w.heap[g]? = some (.cells (vo x) t fr)) : l = [] ∨ v.ownBlock ≠ some g := by
  by_cases hl : l = []
  · exact .inl hl
  · refine .inr fun e => ?_
    obtain ⟨b, off, cap, rfl, _, _, hr⟩ := slE_ne h (List.length_pos_iff.2 hl)
    have hb : b = g := by simpa [Value.ownBlock] using e
    subst hb
    have hlen : 3 ≤ (cellsE E l).length := by
      rw [cellsE_length]
      have : 0 < l.length := List.length_pos_iff.2 hl
      have := Nat.mul_le_mul (show 1 ≤ l.length from this) (show 3 ≤ E.n from hE)
      omega
    have hv : (cellsE E l)[2]? = some ((cellsE E l)[2]'(by omega)) := List.getElem?_eq_getElem _
    have := hr 2 _ hv
    rw [cell_of_row _ _ _ _ _ _ hg, Array.getElem?_eq_none (by rw [vo_size]; omega)] at this
    cases this
theorem slE_put_vo {α : Type} {E : Lie α} (hE : 2 < E.n) {w : World} {v y : Value} {l : List α} {g : Nat} {x : Vo} {t : TypeId} {fr : Nat × Nat} (h : SlE E w v l) (hg : w.heap[g]? = some (.cells (vo x) t fr)) : SlE E (stA w (.pointer (some ⟨g, 0, none⟩)) y) v l := by
  rcases slE_not_vo hE h hg with e | e
  · subst e
    obtain ⟨p, cap, rfl, _⟩ := h
    exact slE_nil _ _ _ _
  · exact slE_block h (by rw [size_stA]; exact Nat.le_refl _) (fun k _ hk => heap_stA (fun e2 => e (by rw [hk, e2])))

/-- Votes in a variable, an empty result behind it, and roots. -/
structure Dw (w W : World) (T R : Nat) (s : SlV) (v : Vt) (u : Value) (keep : List Rt) : Prop where
  a : Vw w W T s v
  r : W.heap[R]? = some (.cells (vo zvo) 25 (0, 0))
  k : SlE Ert W u keep
section
variable {w W W' : World} {T R : Nat} {s : SlV} {v : Vt} {u : Value} {ks : List Rt}
theorem Dw.keep (h : Dw w W T R s v u ks) (g : Below W.heap.size W W') : Dw w W' T R s v u ks := ⟨h.a.keep g, blk_keep g h.r, slE_keep g h.k⟩
theorem Dw.put (h : Dw w W T R s v u ks) (hT : w.heap.size ≤ T) (hR : R ≠ T) {s' : SlV} {l : List Lt} (hs : SlE Elt W (sv s') l) : Dw w (stA W (.pointer (some ⟨T, 0, none⟩)) (.agg (vo ⟨s', v.out⟩))) T R s' ⟨l, v.out⟩ u ks :=
  ⟨⟨heap_putV h.a.box (by rw [vo_size, vo_size]), slE_put_vo (by decide) hs h.a.box, below_stA h.a.g hT⟩, (heap_stA hR).trans h.r, slE_put_vo (by decide) h.k h.a.box⟩
theorem dw_two (hW : W = (w.alloc (.cells (vo ⟨s, v.out⟩) 25)).alloc (.cells (vo zvo) 25)) (h : SlE Elt w (sv s) v.l) (hk : SlE Ert w u ks) : Dw w W w.heap.size (w.heap.size + 1) s v u ks := by
  obtain ⟨g, m, n, _⟩ := heap2 w _ _ _ _ W hW
  exact ⟨⟨m, slE_keep g h, g⟩, n, slE_keep g hk⟩
end
set_option maxRecDepth 100000 in
set_option maxHeartbeats 8000000 in
theorem ref12Drop_n (p q : Option Addr) (n cp m ck : Nat) (v : Vt) (keep : List Rt) (w : World) (h : SlE Elt w (.slice p n cp) v.l) (hk : SlE Ert w (.slice q m ck) keep) (hl : v.l.length = n) (hm : keep.length = m) (hn : n ≤ 1000) (hm1 : m ≤ 1000) :
    Calls Try.prog 14 #[.agg (vo ⟨⟨p, n, cp⟩, v.out⟩), .slice q m ck] w (VoIs (dropV v keep) w) := by
  obtain ⟨W0, hW0⟩ : ∃ W0, W0 = (w.alloc (.cells (vo ⟨⟨p, n, cp⟩, v.out⟩) 25)).alloc (.cells (vo zvo) 25) := ⟨_, rfl⟩
  have d0 := dw_two (s := ⟨p, n, cp⟩) hW0 h hk
  have HM := Lib.hid (ref12May ⟨p, n, cp⟩ v W0 d0.a.s (by omega))
  have D := Lib.hid d0
  have HW := Lib.hid hW0
  have HL := Lib.hid hl
  have HK := Lib.hid hm
  have HN := Lib.hid hn
  have HN1 := Lib.hid hm1
  obtain ⟨dv, hdv⟩ : ∃ dv, dv = dropV v keep := ⟨_, rfl⟩
  rw [← hdv]
  have HD := Lib.hid hdv
  obtain ⟨may, hmay⟩ : ∃ b, b = mayV v := ⟨_, rfl⟩
  have HB := Lib.hid hmay
  rw [← hmay] at HM
  have z1 := d0.a.z1
  clear d0 hW0 h hk hl hm hn hm1 hdv hmay
  cases may
  · have HV : Hid (dv = v) := by show dv = v; rw [HD.out]; unfold dropV; rw [← HB.out]; rfl
    go_enter Try.func14, Try.ntmps14
    go_upto_region 1 with fail
    rw [← HW.out]
    go_wp2_with fail
    refine HM.out.mono ?_
    rintro e w1 ⟨rfl, g⟩
    replace D := Lib.hid (D.out.keep g)
    clear g z1
    go_wp2_with fail
    go_loopw [6, 7, 8] (fun i _ _ wr => i = .int .i64 0 ∧ Dw w wr w.heap.size (w.heap.size + 1) ⟨p, n, cp⟩ v (.slice q m ck) keep) (fun _ _ _ _ => 0)
    case atStart => exact ⟨rfl, D.out⟩
    case round =>
      obtain ⟨rfl, hD⟩ := hrel
      replace D := Lib.hid hD
      clear hD
      have z0 := D.out.a.z0
      rw [sv_mk] at z0
      have z1 := D.out.a.z1
      have z2 := wrA_block D.out.r (vo_size _)
      obtain ⟨c, hc⟩ : ∃ c, c = decide ((0 : Int) < (n : Int)) := ⟨_, rfl⟩
      have hc' : decide (0 < n) = c := by rw [hc]; exact decide_eq_decide.2 (by omega)
      replace hc := hc.symm
      cases c <;> (
        go_wp2_with fail
        have ne : w.heap.size + 1 ≠ w.heap.size := by omega
        exact bodyPost_ret (results_agg1 Try.isAgg25 Try.sizeOf25 _ 4 rfl _ _ _ _ rfl (ldA_block (heap_putV D.out.r (by rw [vo_size, vo_size])) (vo_size _))) rfl
          ⟨⟨p, n, cp⟩, by rw [HV.out], by rw [HV.out]; exact slE_put_vo (by decide) D.out.a.s D.out.r, below_stA D.out.a.g (by omega)⟩)
  · have HV : Hid (∀ l' : List Lt, l'.length = n → (∀ x, lat l' x = if x < n then (if stayB keep (lat v.l x) = true then lat v.l x else zlt) else lat v.l x) → dv = ⟨l', v.out⟩) := fun l' e1 e2 => by
      rw [HD.out]; unfold dropV; rw [← HB.out, if_pos rfl]
      refine Vt.ext (lat_ext (by rw [List.length_map, e1, HL.out]) fun i hi => ?_) rfl
      show lat (v.l.map _) i = lat l' i
      have hi' : i < n := by have : i < l'.length := hi; omega
      rw [lat_map (by rw [HL.out]; exact hi'), e2, if_pos hi']
    go_enter Try.func14, Try.ntmps14
    go_upto_region 1 with fail
    rw [← HW.out]
    go_wp2_with fail
    refine HM.out.mono ?_
    rintro e w1 ⟨rfl, g⟩
    replace D := Lib.hid (D.out.keep g)
    clear g z1
    go_wp2_with fail
    go_loopw [6, 7, 8] (fun i _ _ wr => ∃ j : Nat, j ≤ n ∧ i = .int .i64 (j : Int) ∧ ∃ p' c' l', Dw w wr w.heap.size (w.heap.size + 1) ⟨p', n, c'⟩ ⟨l', v.out⟩ (.slice q m ck) keep ∧ l'.length = n ∧ (∀ x, lat l' x = if x < j then (if stayB keep (lat v.l x) = true then lat v.l x else zlt) else lat v.l x)) (fun i _ _ _ => n - (intOf i).toNat)
    case atStart => exact ⟨0, Nat.zero_le _, rfl, p, cp, v.l, D.out, HL.out, fun x => by rw [if_neg (Nat.not_lt_zero _)]⟩
    case round =>
      obtain ⟨j, hj, rfl, p', c', l', hD, hl', hx⟩ := hrel
      replace D := Lib.hid hD
      have HX := Lib.hid hx
      have HL' := Lib.hid hl'
      clear hD hx hl'
      have z0 := D.out.a.z0
      rw [sv_mk] at z0
      by_cases hlt : j < n
      · have i0 : (0 : Int) ≤ (j : Int) := by omega
        have i1 : (j : Int) < (n : Int) := by omega
        have u1 : (j : Int) + 1 < 10000 := by have := HN.out; omega
        obtain ⟨wo, rfl⟩ : ∃ wo : World, wo = wr := ⟨_, rfl⟩
        obtain ⟨ρ, hρ⟩ : ∃ ρ, ρ = (lat l' j).root := ⟨_, rfl⟩
        have Hρ := Lib.hid hρ
        have HLT := Lib.hid hlt
        clear hρ hlt
        go_wp2_with fail
        go_loopw [7, 8] (fun b i wr => ∃ x : Nat, x ≤ m ∧ i = .int .i64 (x : Int) ∧ b = .bool (decide (ρ ∈ keep.take x)) ∧ Below wo.heap.size wo wr) (fun _ i _ => m - (intOf i).toNat)
        case atStart => exact ⟨0, Nat.zero_le _, rfl, by rw [List.take_zero]; rfl, Below.refl _ _⟩
        case round =>
          obtain ⟨x, hx, rfl, rfl, hb⟩ := hrel
          have G := Lib.hid hb
          have DX := Lib.hid (D.out.keep hb)
          clear hb z0
          have z0 := DX.out.a.z0
          rw [sv_mk] at z0
          by_cases hxm : x < m
          · have x0 : (0 : Int) ≤ (x : Int) := by omega
            have x1 : (x : Int) < (m : Int) := by omega
            have u2 : (x : Int) + 1 < 10000 := by have := HN1.out; omega
            have HT : Hid (decide (ρ ∈ keep.take (x + 1)) = (decide (ρ ∈ keep.take x) || decide (rtAt keep x = ρ))) := mem_take (by rw [HK.out]; exact hxm) ρ
            obtain ⟨b, hb⟩ : ∃ b, b = decide (ρ ∈ keep.take x) := ⟨_, rfl⟩
            rw [← hb] at HT ⊢
            clear hb
            cases b
            · obtain ⟨b1, o1, rfl, _, q1⟩ := lats_ptr DX.out.a.s (by have := HL'.out; have := HLT.out; show 0 < l'.length; omega)
              obtain ⟨b2, o2, rfl, _, q2⟩ := rts_ptr DX.out.k (by rw [HK.out]; omega)
              have y1 := lats_root q1 (i := j) (by show j < l'.length; rw [HL'.out]; exact HLT.out)
              have y2 := rts_ld q2 (i := x) (by rw [HK.out]; exact hxm)
              rw [show (lat (Vt.mk l' v.out).l j).root = ρ from Hρ.out.symm] at y1
              obtain ⟨σ, hσ⟩ : ∃ σ, σ = rtAt keep x := ⟨_, rfl⟩
              rw [← hσ] at y2 HT
              clear q1 q2 hσ
              by_cases he : σ = ρ
              · subst he
                have HT' : Hid (decide (σ ∈ keep.take (x + 1)) = true) := by show _ = _; rw [HT.out]; simp
                have t1 := eqB_self σ
                go_wp2_with fail
                go_quiet (fail)
                go_wp2_with fail
                go_roundw
                case rel => exact ⟨x + 1, by omega, by go_num, by rw [HT'.out], belowD G.out _⟩
                case measure => simp [intOf]; omega
              · have t1 : decide (σ = ρ) = false := decide_eq_false he
                have HT' : Hid (decide (ρ ∈ keep.take (x + 1)) = false) := by show _ = _; rw [HT.out, t1]; rfl
                have t2 : eqB σ ρ = false := t1
                clear he
                go_wp2_with fail
                go_quiet (fail)
                go_wp2_with fail
                go_roundw
                case rel => exact ⟨x + 1, by omega, by go_num, by rw [HT'.out], belowD G.out _⟩
                case measure => simp [intOf]; omega
            · have HT' : Hid (decide (ρ ∈ keep.take (x + 1)) = true) := by show _ = _; rw [HT.out]; rfl
              go_wp2_with fail
              go_quiet (fail)
              go_wp2_with fail
              go_roundw
              case rel => exact ⟨x + 1, by omega, by go_num, by rw [HT'.out], belowD G.out _⟩
              case measure => simp [intOf]; omega
          · obtain rfl : x = m := by omega
            have HT : Hid (decide (ρ ∈ keep.take x) = stayB keep (lat v.l j)) := by
              show _ = _
              rw [← HK.out, List.take_length, Hρ.out, HX.out j, if_neg (Nat.lt_irrefl _)]
              rfl
            rw [HT.out]
            obtain ⟨b, hb⟩ : ∃ b, b = stayB keep (lat v.l j) := ⟨_, rfl⟩
            rw [← hb]
            have HBb := Lib.hid hb
            clear hb HT
            cases b
            · have HC := Lib.hid (ref12With ⟨p', n, c'⟩ v.out l' j zlt wr DX.out.a.s (by have := HL'.out; have := HN.out; omega) (by rw [HL'.out]; exact HLT.out))
              have z1 := DX.out.a.z1
              go_wp2_with fail
              refine HC.out.mono ?_
              rintro e w2 ⟨⟨p2, n2, c2⟩, rfl, s2, g2⟩
              obtain rfl : n = n2 := by have := sv_lenT s2; rw [List.length_set, HL'.out] at this; exact this
              have S2 := Lib.hid s2
              have DY := Lib.hid (DX.out.keep g2)
              clear s2 g2 z0 z1
              have y1 := wrA_block DY.out.a.box (vo_size _)
              go_wp2_with fail
              go_roundw
              case rel => exact ⟨j + 1, HLT.out, by go_num, p2, c2, l'.set j zlt, DY.out.put (Nat.le_refl _) (by omega) S2.out, by rw [List.length_set, HL'.out], fun y => by
                rw [lat_set (by rw [HL'.out]; exact HLT.out), HX.out y]
                by_cases e : y = j
                · subst e; rw [if_pos rfl, if_pos (Nat.lt_succ_self _), ← HBb.out]; rfl
                · rw [if_neg e]
                  by_cases e2 : y < j
                  · rw [if_pos e2, if_pos (show y < j + 1 by omega)]
                  · rw [if_neg e2, if_neg (show ¬ y < j + 1 by omega)]⟩
              case measure => simp [intOf]; have := HLT.out; omega
            · go_wp2_with fail
              go_roundw
              case rel => exact ⟨j + 1, HLT.out, by go_num, p', c', l', DX.out, HL'.out, fun y => by
                rw [HX.out y]
                by_cases e : y = j
                · subst e; rw [if_neg (Nat.lt_irrefl _), if_pos (Nat.lt_succ_self _), ← HBb.out]; rfl
                · by_cases e2 : y < j
                  · rw [if_pos e2, if_pos (show y < j + 1 by omega)]
                  · rw [if_neg e2, if_neg (show ¬ y < j + 1 by omega)]⟩
              case measure => simp [intOf]; have := HLT.out; omega
      · obtain rfl : j = n := by omega
        have z1 := D.out.a.z1
        have z2 := wrA_block D.out.r (vo_size _)
        have HE := Lib.hid (HV.out l' HL'.out HX.out)
        clear hlt
        go_wp2_with fail
        exact bodyPost_ret (results_agg1 Try.isAgg25 Try.sizeOf25 _ 4 rfl _ _ _ _ rfl (ldA_block (heap_putV D.out.r (by rw [vo_size, vo_size])) (vo_size _))) rfl
          ⟨⟨p', j, c'⟩, by rw [HE.out], by rw [HE.out]; exact slE_put_vo (by decide) D.out.a.s D.out.r, below_stA D.out.a.g (by omega)⟩
theorem ref12Drop (s : SlV) (u : Value) (v : Vt) (keep : List Rt) (w : World) (h : SlE Elt w (sv s) v.l) (hk : SlE Ert w u keep) (hn : v.l.length ≤ 1000) (hm : keep.length ≤ 1000) :
    Calls Try.prog 14 #[.agg (vo ⟨s, v.out⟩), u] w (VoIs (dropV v keep) w) := by
  have hl := sv_lenT h
  have hks := hk
  obtain ⟨q, ck, rfl, _⟩ := slE_shape hk
  obtain ⟨p, n, cp⟩ := s
  dsimp only at hl
  exact ref12Drop_n p q n cp _ ck v keep w h hks hl rfl (by omega) hm
theorem enters_ref12Drop : ∀ args w, (callFunc 14 args).run Try.prog w = .ok (.enter 14 args) w := entersE Try.func14 (by kernel_rfl) (by kernel_rfl)
end Go.Proofs.Ytfmbgpjpkahmnaa
