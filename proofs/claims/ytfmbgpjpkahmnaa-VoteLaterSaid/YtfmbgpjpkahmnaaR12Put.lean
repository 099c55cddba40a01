/-
  The document's votes: Put, walked. (written by a script)
-/
import Derived.Test.YtfmbgpjpkahmnaaR12Drop
import Derived.Test.YtfmbgpjpkahmnaaLexA
namespace Go.Proofs.Ytfmbgpjpkahmnaa
open Go.RowKit

/-- Votes, a root, an empty result in variables. -/
structure Pw (w W : World) (s : SlV) (v : Vt) (r : Rt) : Prop where
  a : Vw w W w.heap.size s v
  u : W.heap[w.heap.size + 1]? = some (.cells (rc r) 27 (0, 0))
  r : W.heap[w.heap.size + 2]? = some (.cells (vo zvo) 25 (0, 0))
theorem Pw.kp {w W W' : World} {s : SlV} {v : Vt} {r : Rt} (h : Pw w W s v r) (g : Below W.heap.size W W') : Pw w W' s v r := ⟨h.a.keep g, blk_keep g h.u, blk_keep g h.r⟩
theorem pw_new {w W : World} {s : SlV} {v : Vt} {r : Rt} (hW : W = ((w.alloc (.cells (vo ⟨s, v.out⟩) 25)).alloc (.cells (rc r) 27)).alloc (.cells (vo zvo) 25)) (h : SlE Elt w (sv s) v.l) : Pw w W s v r ∧ W.heap.size = w.heap.size + 3 := by
  obtain ⟨g, m, n, o, z⟩ := heap3 w _ _ _ _ _ _ W hW
  exact ⟨⟨⟨m, slE_keep g h, g⟩, n, o⟩, z⟩
theorem bit_sum {j : Nat} (hj : j < 64) (out : UInt64) : IntKind.u64.wrap ((out.toNat : Int) + (bitN (j : Int) : Int)) = ((out + bitU j).toNat : Int) := by
  have h1 : bitN (j : Int) = (bitU j).toNat := by
    unfold bitN bitU
    rw [if_pos ⟨by omega, by omega⟩, Int.toNat_natCast, UInt64.toNat_ofNat', Nat.mod_eq_of_lt (Nat.pow_lt_pow_right (by decide) hj)]
  rw [h1, IntKind.wrap_u64, UInt64.toNat_add]
  omega

set_option maxRecDepth 100000 in
set_option maxHeartbeats 16000000 in
theorem ref12Put_n (p : Option Addr) (n cp : Nat) (v : Vt) (i : Int) (r : Rt) (ep : UInt64) (w : World) (h : SlE Elt w (.slice p n cp) v.l) (hl : v.l.length = n) (hn : n ≤ 1000) :
    Calls Try.prog 11 #[.agg (vo ⟨⟨p, n, cp⟩, v.out⟩), .int .i64 i, .agg (rc r), .int .u64 (ep.toNat : Int)] w (VoEr (putV v i r ep) (putVk v i r ep) (putVe v i) w) := by
  obtain ⟨W0, hW0⟩ : ∃ W0, W0 = ((w.alloc (.cells (vo ⟨⟨p, n, cp⟩, v.out⟩) 25)).alloc (.cells (rc r) 27)).alloc (.cells (vo zvo) 25) := ⟨_, rfl⟩
  obtain ⟨p0, hz⟩ := pw_new (s := ⟨p, n, cp⟩) hW0 h
  have HM := Lib.hid (ref12May ⟨p, n, cp⟩ v W0 p0.a.s (by omega))
  have P := Lib.hid p0
  have HZ := Lib.hid hz
  have HW := Lib.hid hW0
  have HL := Lib.hid hl
  have HN := Lib.hid hn
  obtain ⟨V, hV⟩ : ∃ V, V = putV v i r ep := ⟨_, rfl⟩
  obtain ⟨k, hk⟩ : ∃ k, k = putVk v i r ep := ⟨_, rfl⟩
  obtain ⟨e, he⟩ : ∃ e, e = putVe v i := ⟨_, rfl⟩
  rw [← hV, ← hk, ← he]
  have HF := Lib.hid (show V = _ ∧ k = _ ∧ e = _ from ⟨hV, hk, he⟩)
  obtain ⟨may, hmay⟩ : ∃ b, b = mayV v := ⟨_, rfl⟩
  have HB := Lib.hid hmay
  rw [← hmay] at HM
  have z1 := p0.a.z1
  have H8 : Hid (may = true → n ≤ 8) := fun e => by rw [← HL.out]; exact (mayV_iff.1 (HB.out.symm.trans e)).2.1
  clear p0 hz hW0 h hl hn hV hk he hmay
  cases may
  · have HR : Hid (V = v ∧ k = 0 ∧ e = 1) := by
      show _ ∧ _ ∧ _
      obtain ⟨e1, e2, e3⟩ := HF.out
      unfold putV at e1
      unfold putVk at e2
      unfold putVe at e3
      rw [← HB.out, if_neg (fun h => by cases h.1)] at e1 e2
      rw [← HB.out, if_neg Bool.false_ne_true] at e3
      exact ⟨e1, e2, e3⟩
    go_enter Try.func11, Try.ntmps11
    go_upto_region 1 with fail
    rw [← HW.out]
    go_wp2_with fail
    refine HM.out.mono ?_
    rintro e w1 ⟨rfl, g⟩
    replace P := Lib.hid (P.out.kp g)
    clear g z1
    have z0 := P.out.a.z0
    rw [sv_mk] at z0
    have z1 := P.out.a.z1
    have z2 := wrA_block P.out.r (vo_size _)
    go_wp2_with fail
    exact bodyPost_ret (results_agg3 Try.isAgg25 Try.sizeOf25 _ 8 9 10 rfl _ _ _ _ _ _ rfl rfl rfl (ldA_block (heap_putV P.out.r (by rw [vo_size, vo_size])) (vo_size _))) rfl ⟨⟨p, n, cp⟩, by rw [HR.out.1, HR.out.2.1, HR.out.2.2]; rfl, by rw [HR.out.1]; exact slE_put_vo (by decide) P.out.a.s P.out.r, below_stA P.out.a.g (by omega)⟩
  · by_cases hin : 0 ≤ i ∧ i < n
    · obtain ⟨j, rfl⟩ : ∃ j : Nat, i = j := ⟨i.toNat, by omega⟩
      have hlt : j < n := by omega
      have hj8 : j < 64 := by have := H8.out rfl; omega
      have hinV : inV v (j : Int) = true := decide_eq_true (by rw [HL.out]; exact hin)
      have HE : Hid (V = stepV v j r ep ∧ k = fateV v j r ep ∧ e = 0) := by
        show _ ∧ _ ∧ _
        obtain ⟨e1, e2, e3⟩ := HF.out
        unfold putV at e1
        unfold putVk at e2
        unfold putVe at e3
        rw [← HB.out, if_pos ⟨rfl, hinV⟩, Int.toNat_natCast] at e1 e2
        rw [← HB.out, if_pos rfl, if_pos hinV] at e3
        exact ⟨e1, e2, e3⟩
      have HSF : Hid (stepV v j r ep = match fateV v j r ep with | 0 => v | 1 => ⟨v.l.set j ⟨true, r, ep⟩, v.out⟩ | _ => ⟨v.l.set j zlt, v.out + bitU j⟩) := rfl
      have HSum := Lib.hid (bit_sum hj8 v.out)
      obtain ⟨M, hM⟩ : ∃ M, M = (v.out.toNat : Int) := ⟨_, rfl⟩
      rw [← hM] at HSum
      have HMo := Lib.hid hM
      have HH : Hid (∀ W, Calls Try.prog 24 #[.int .u64 M, .int .i64 (j : Int)] W fun e w' => e = .returned (.bool (hasB v.out j)) ∧ Below W.heap.size W w') := fun W => by rw [hM]; exact ref11HasN v.out hj8 W
      have HLT := Lib.hid hlt
      have i0 : (0 : Int) ≤ (j : Int) := by omega
      have i1 : (j : Int) < (n : Int) := by omega
      have d0 : decide ((j : Int) < 0) = false := decide_eq_false (by omega)
      have d1 : decide ((n : Int) ≤ (j : Int)) = false := decide_eq_false (by omega)
      have d1' : decide (n ≤ j) = false := decide_eq_false (by omega)
      clear hinV hin hM hlt hj8
      go_enter Try.func11, Try.ntmps11
      go_upto_region 1 with fail
      rw [← HW.out]
      go_wp2_with fail
      refine HM.out.mono ?_
      rintro e w1 ⟨rfl, g⟩
      replace P := Lib.hid (P.out.kp g)
      clear g z1
      have z0 := P.out.a.z0
      rw [sv_mk] at z0
      have z1 := P.out.a.z1
      have z2 := wrA_block P.out.r (vo_size _)
      have zo := P.out.a.zo
      rw [← HMo.out] at zo
      obtain ⟨b, hb⟩ : ∃ b, b = hasB v.out j := ⟨_, rfl⟩
      rw [← hb] at HH
      have HBb := Lib.hid hb
      clear hb
      go_wp2_with fail
      refine (HH.out _).mono ?_
      rintro e w2 ⟨rfl, g⟩
      replace P := Lib.hid (P.out.kp g)
      clear g z0 z1 z2 zo
      have z0 := P.out.a.z0
      rw [sv_mk] at z0
      have z1 := P.out.a.z1
      have z2 := wrA_block P.out.r (vo_size _)
      obtain ⟨b1, o1, rfl, _, q1⟩ := lats_ptr P.out.a.s (by rw [HL.out]; have := HLT.out; omega)
      have y1 := lats_ld q1 (i := j) (by rw [HL.out]; exact HLT.out)
      clear q1
      go_upto_region 8 with fail
      obtain ⟨w3, hw3⟩ : ∃ w3, w3 = w2.alloc (.cells (lt (lat v.l j)) 41) := ⟨_, rfl⟩
      rw [← hw3]
      have hx3 : w3.heap[w2.heap.size]? = some (.cells (lt (lat v.l j)) 41 (0, 0)) := by rw [hw3]; exact heap_alloc_last w2 _
      replace P := Lib.hid (P.out.kp (W' := w3) (by rw [hw3]; exact below1))
      have HZ3 : Hid (w.heap.size + 3 ≤ w3.heap.size) := (Array.getElem?_eq_some_iff.1 P.out.r).1
      obtain ⟨x, hx⟩ : ∃ x, x = lat v.l j := ⟨_, rfl⟩
      rw [← hx] at hx3
      have Hx := Lib.hid hx
      have HZ4 : Hid (∀ {m : Nat}, w3.heap.size ≤ m → w.heap.size + 3 ≤ m) := fun h => Nat.le_trans HZ3.out h
      obtain ⟨c0, c1, c2, _, _⟩ := lt_cells hx3
      clear hw3 hx hx3 y1 z0 z1 z2
      obtain ⟨hs, hhs⟩ : ∃ hs, hs = x.has := ⟨_, rfl⟩
      obtain ⟨E, hE⟩ : ∃ E, E = x.epoch.toNat := ⟨_, rfl⟩
      obtain ⟨ρ, hρ⟩ : ∃ ρ, ρ = x.root := ⟨_, rfl⟩
      rw [← hhs] at c0
      rw [← hE] at c2
      rw [← hρ] at c1
      have HFt : Hid (fateV v j r ep = if b = true then 0 else if hs = true ∧ (ep.toNat < E ∨ E = ep.toNat ∧ ρ = r) then 0 else if hs = true ∧ E = ep.toNat then 2 else 1) := by
        show _ = _
        unfold fateV
        rw [← HBb.out, ← Hx.out, ← hhs, ← hρ, hE]
        simp only [UInt64.toNat_inj]
      clear hhs hE hρ
      have z1 := P.out.a.z1
      have z2 := wrA_block P.out.r (vo_size _)
      have zu := ldA_block P.out.u (rc_size _)
      have HC : Hid (∀ y W, SlE Elt W (sv ⟨some ⟨b1, o1, none⟩, n, cp⟩) v.l → Calls Try.prog 25 #[.agg (vo ⟨⟨some ⟨b1, o1, none⟩, n, cp⟩, v.out⟩), .int .i64 (j : Int), .agg (lt y)] W (VoIs ⟨v.l.set j y, v.out⟩ W)) := fun y W hS => ref12With _ _ _ _ _ _ hS (by rw [HL.out]; exact HN.out) (by rw [HL.out]; exact HLT.out)
      cases b
      · cases hs
        · have t0 : True := trivial
          have HR : Hid (V = ⟨v.l.set j ⟨true, r, ep⟩, v.out⟩ ∧ k = 1 ∧ e = 0) := by
            show _ ∧ _ ∧ _
            have hf : fateV v j r ep = 1 := (HFt.out.trans (if_neg Bool.false_ne_true)).trans ((if_neg (fun h => by cases h.1)).trans (if_neg (fun h => by cases h.1)))
            have := HSF.out
            rw [hf] at this
            exact ⟨HE.out.1.trans this, HE.out.2.1.trans hf, HE.out.2.2⟩
          clear t0 HSum
          go_wp2_with fail
          refine (HC.out ⟨true, r, ep⟩ w3 P.out.a.s).mono ?_
          rintro e w4 ⟨s2, rfl, hs2, g⟩
          have S2 := Lib.hid hs2
          replace P := Lib.hid (P.out.kp g)
          clear hs2 g c0 c1 c2 z1 z2 zu
          have z2 := wrA_block P.out.r (vo_size _)
          go_wp2_with fail
          exact bodyPost_ret (results_agg3 Try.isAgg25 Try.sizeOf25 _ 8 9 10 rfl _ _ _ _ _ _ rfl rfl rfl (ldA_block (heap_putV P.out.r (by rw [vo_size, vo_size])) (vo_size _))) rfl ⟨s2, by rw [HR.out.1, HR.out.2.1, HR.out.2.2]; rfl, by rw [HR.out.1]; exact slE_put_vo (by decide) S2.out P.out.r, below_stA P.out.a.g (by omega)⟩
        · by_cases h1 : ep.toNat < E
          · have t1 : decide ((ep.toNat : Int) < (E : Int)) = true := decide_eq_true (by omega)
            have t1' : decide (ep.toNat < E) = true := decide_eq_true h1
            have HR : Hid (V = v ∧ k = 0 ∧ e = 0) := by
              show _ ∧ _ ∧ _
              have hf : fateV v j r ep = 0 := (HFt.out.trans (if_neg Bool.false_ne_true)).trans (if_pos ⟨rfl, .inl h1⟩)
              have := HSF.out
              rw [hf] at this
              exact ⟨HE.out.1.trans this, HE.out.2.1.trans hf, HE.out.2.2⟩
            clear h1 HC HSum
            go_wp2_with fail
            exact bodyPost_ret (results_agg3 Try.isAgg25 Try.sizeOf25 _ 8 9 10 rfl _ _ _ _ _ _ rfl rfl rfl (ldA_block (heap_putV P.out.r (by rw [vo_size, vo_size])) (vo_size _))) rfl ⟨⟨some ⟨b1, o1, none⟩, n, cp⟩, by rw [HR.out.1, HR.out.2.1, HR.out.2.2]; rfl, by rw [HR.out.1]; exact slE_put_vo (by decide) P.out.a.s P.out.r, below_stA P.out.a.g (by omega)⟩
          · have t1 : decide ((ep.toNat : Int) < (E : Int)) = false := decide_eq_false (by omega)
            have t1' : decide (ep.toNat < E) = false := decide_eq_false h1
            by_cases h2 : E = ep.toNat
            · have HE2 := Lib.hid h2
              subst h2
              by_cases h3 : ρ = r
              · replace h3 := h3.symm
                subst h3
                have t3 := eqB_self r
                have HR : Hid (V = v ∧ k = 0 ∧ e = 0) := by
                  show _ ∧ _ ∧ _
                  have hf : fateV v j r ep = 0 := (HFt.out.trans (if_neg Bool.false_ne_true)).trans (if_pos ⟨rfl, .inr ⟨rfl, rfl⟩⟩)
                  have := HSF.out
                  rw [hf] at this
                  exact ⟨HE.out.1.trans this, HE.out.2.1.trans hf, HE.out.2.2⟩
                clear h1 HC HSum
                go_wp2_with fail
                exact bodyPost_ret (results_agg3 Try.isAgg25 Try.sizeOf25 _ 8 9 10 rfl _ _ _ _ _ _ rfl rfl rfl (ldA_block (heap_putV P.out.r (by rw [vo_size, vo_size])) (vo_size _))) rfl ⟨⟨some ⟨b1, o1, none⟩, n, cp⟩, by rw [HR.out.1, HR.out.2.1, HR.out.2.2]; rfl, by rw [HR.out.1]; exact slE_put_vo (by decide) P.out.a.s P.out.r, below_stA P.out.a.g (by omega)⟩
              · have t3 : eqB ρ r = false := decide_eq_false h3
                have HR : Hid (V = ⟨v.l.set j zlt, v.out + bitU j⟩ ∧ k = 2 ∧ e = 0) := by
                  show _ ∧ _ ∧ _
                  have hf : fateV v j r ep = 2 := (HFt.out.trans (if_neg Bool.false_ne_true)).trans ((if_neg (fun h => h.2.elim (fun q => by omega) (fun q => h3 q.2))).trans (if_pos ⟨rfl, rfl⟩))
                  have := HSF.out
                  rw [hf] at this
                  exact ⟨HE.out.1.trans this, HE.out.2.1.trans hf, HE.out.2.2⟩
                clear h1 h3
                go_wp2_with fail
                refine (HC.out zlt w3 P.out.a.s).mono ?_
                rintro e w4 ⟨s2, rfl, hs2, g⟩
                replace P := Lib.hid (P.out.kp g)
                clear c0 c1 c2 z1 z2 zu
                go_upto_region 12 with fail
                obtain ⟨w5, hw5⟩ : ∃ w5, w5 = w4.alloc (.cells (vo ⟨s2, v.out⟩) 25) := ⟨_, rfl⟩
                rw [← hw5]
                have hB5 : Below w4.heap.size w4 w5 := by rw [hw5]; exact below1
                have M5 : Hid (w5.heap[w4.heap.size]? = some (.cells (vo ⟨s2, v.out⟩) 25 (0, 0))) := by rw [hw5]; exact heap_alloc_last w4 _
                have S5 := Lib.hid (slE_keep hB5 hs2)
                have HNB : Hid ((sv s2).ownBlock ≠ some w4.heap.size) := fun eb => by
                  obtain ⟨q, c, e, _⟩ := slE_shape hs2
                  have := slE_lt hs2 e (by rw [List.length_set, HL.out]; have := HLT.out; omega) eb
                  omega
                replace P := Lib.hid (P.out.kp hB5)
                have hwB : w4.heap.size ≤ w5.heap.size := hB5.size
                have Z4 : Hid (w.heap.size + 3 ≤ w4.heap.size) := HZ4.out g.size
                clear hw5 hB5 hs2 g
                have Q0 := wd_cell (vo_cells M5.out).2.1
                dsimp only at Q0
                rw [← HMo.out] at Q0
                have HBt := Lib.hid (ref11Bit (j : Int) w5.drew)
                obtain ⟨Bn, hBn⟩ : ∃ Bn, Bn = bitN (j : Int) := ⟨_, rfl⟩
                rw [← hBn] at HBt HSum
                have hsum := HSum.out
                clear hBn
                refine wp_region_lexT w4.heap.size [1] [3, 6] (by kernel_rfl) (by kernel_rfl) (by kernel_rfl) ?_
                refine wpXT_quiet2 rfl rfl rfl hwB ?_
                (first | go_big_quiet_step (fail) | quiet_step (fail)); refine wpQuiet_nil ?_
                refine wpXT_quiet1 rfl rfl rfl hwB ?_
                (first | go_big_quiet_step (fail) | quiet_step (fail)); refine wpQuiet_nil ?_
                refine wpXT_quiet2 rfl rfl rfl hwB ?_
                (first | go_big_quiet_step (fail) | quiet_step (fail)); refine wpQuiet_nil ?_
                refine wpXT_call rfl rfl rfl enters_ref11Bit #[.int .i64 (j : Int)] rfl ?_
                refine HBt.out.mono ?_
                rintro e u ⟨rfl, gu⟩
                refine ⟨_, rfl, gu, ?_⟩
                simp only [Act.put, List.setIfInBounds_toArray, List.set_cons_zero, List.set_cons_succ]
                have GU : Below w5.heap.size w5 u := belowT (belowD (Below.refl _ _) 1) gu
                have MU := Lib.hid (blk_keep GU M5.out)
                have SU := Lib.hid (slE_keep GU S5.out)
                replace P := Lib.hid (P.out.kp GU)
                clear gu GU
                repeat (refine wpXT_quiet2 rfl rfl rfl hwB ?_; (first | go_big_quiet_step (fail) | quiet_step (fail)); refine wpQuiet_nil ?_)
                obtain ⟨W6, hW6⟩ : ∃ W6, W6 = u.setCell ⟨w4.heap.size, 1, none⟩ (.int .u64 ((v.out + bitU j).toNat : Int)) := ⟨_, rfl⟩
                have f0 := frozen_of_row u w4.heap.size 1 _ _ MU.out
                have f2 := (vo_cells MU.out).2.1
                dsimp only at f2
                have M6 : Hid (W6.heap[w4.heap.size]? = some (.cells (vo ⟨s2, v.out + bitU j⟩) 25 (0, 0))) := by
                  have := heap_setCell_same MU.out 1 (.int .u64 ((v.out + bitU j).toNat : Int))
                  rw [hW6]
                  rwa [vo_setn_out] at this
                have S6 : Hid (SlE Elt W6 (sv s2) (v.l.set j zlt)) := by rw [hW6]; exact slE_block SU.out (Nat.le_of_eq (by simp [World.setCell])) (fun b _ hb => by rw [Below.heap_setCell _ _ _ _ (fun e => HNB.out (by rw [hb, e]))])
                have B6 : Hid (Below w.heap.size w W6) := by rw [hW6]; exact P.out.a.g.setCell (p := ⟨w4.heap.size, 1, none⟩) (by have := Z4.out; show w.heap.size ≤ w4.heap.size; omega) _
                have R6 : Hid (W6.heap[w.heap.size + 2]? = some (.cells (vo zvo) 25 (0, 0))) := by rw [hW6, Below.heap_setCell _ _ _ _ (show w.heap.size + 2 ≠ w4.heap.size by have := Z4.out; omega)]; exact P.out.r
                have HW6 := Lib.hid hW6
                clear hW6
                refine wpXT_store rfl rfl W6 (by rw [HW6.out]; go_simp) (relE_tail (by kernel_rfl) (by rw [HW6.out]; exact (Below.refl _ _).setCell (p := ⟨w4.heap.size, 1, none⟩) (Nat.le_refl _) _)) ?_
                simp only [Act.put]
                refine wpXT_nil ?_
                have y1 := ldA_block M6.out (vo_size _)
                have y2 := wrA_block R6.out (vo_size _)
                clear Q0 hwB f0 f2 hsum
                go_wp2_with fail
                exact bodyPost_ret (results_agg3 Try.isAgg25 Try.sizeOf25 _ 8 9 10 rfl _ _ _ _ _ _ rfl rfl rfl (ldA_block (heap_putV R6.out (by rw [vo_size, vo_size])) (vo_size _))) rfl ⟨s2, by rw [HR.out.1, HR.out.2.1, HR.out.2.2]; rfl, by rw [HR.out.1]; exact slE_put_vo (by decide) S6.out R6.out, below_stA B6.out (by omega)⟩
            · have t2 : ((E : Int) == (ep.toNat : Int)) = false := by rw [beq_eq_false_iff_ne]; omega
              have t2' : (E == ep.toNat) = false := by rw [beq_eq_false_iff_ne]; exact h2
              have t4 : decide (E = ep.toNat) = false := decide_eq_false h2
              have HR : Hid (V = ⟨v.l.set j ⟨true, r, ep⟩, v.out⟩ ∧ k = 1 ∧ e = 0) := by
                show _ ∧ _ ∧ _
                have hf : fateV v j r ep = 1 := (HFt.out.trans (if_neg Bool.false_ne_true)).trans ((if_neg (fun h => h.2.elim (fun q => by omega) (fun q => h2 q.1))).trans (if_neg (fun h => h2 h.2)))
                have := HSF.out
                rw [hf] at this
                exact ⟨HE.out.1.trans this, HE.out.2.1.trans hf, HE.out.2.2⟩
              clear h1 h2 HSum
              go_wp2_with fail
              refine (HC.out ⟨true, r, ep⟩ w3 P.out.a.s).mono ?_
              rintro e w4 ⟨s2, rfl, hs2, g⟩
              have S2 := Lib.hid hs2
              replace P := Lib.hid (P.out.kp g)
              clear hs2 g c0 c1 c2 z1 z2 zu
              have z2 := wrA_block P.out.r (vo_size _)
              go_wp2_with fail
              exact bodyPost_ret (results_agg3 Try.isAgg25 Try.sizeOf25 _ 8 9 10 rfl _ _ _ _ _ _ rfl rfl rfl (ldA_block (heap_putV P.out.r (by rw [vo_size, vo_size])) (vo_size _))) rfl ⟨s2, by rw [HR.out.1, HR.out.2.1, HR.out.2.2]; rfl, by rw [HR.out.1]; exact slE_put_vo (by decide) S2.out P.out.r, below_stA P.out.a.g (by omega)⟩
      · have t0 : True := trivial
        have HR : Hid (V = v ∧ k = 0 ∧ e = 0) := by
          show _ ∧ _ ∧ _
          have hf : fateV v j r ep = 0 := HFt.out.trans (if_pos rfl)
          have := HSF.out
          rw [hf] at this
          exact ⟨HE.out.1.trans this, HE.out.2.1.trans hf, HE.out.2.2⟩
        clear t0 HC HSum
        go_wp2_with fail
        exact bodyPost_ret (results_agg3 Try.isAgg25 Try.sizeOf25 _ 8 9 10 rfl _ _ _ _ _ _ rfl rfl rfl (ldA_block (heap_putV P.out.r (by rw [vo_size, vo_size])) (vo_size _))) rfl ⟨⟨some ⟨b1, o1, none⟩, n, cp⟩, by rw [HR.out.1, HR.out.2.1, HR.out.2.2]; rfl, by rw [HR.out.1]; exact slE_put_vo (by decide) P.out.a.s P.out.r, below_stA P.out.a.g (by omega)⟩
    · have HR : Hid (V = v ∧ k = 0 ∧ e = 10) := by
        show _ ∧ _ ∧ _
        have hinV : inV v i = false := decide_eq_false (by rw [HL.out]; exact hin)
        obtain ⟨e1, e2, e3⟩ := HF.out
        unfold putV at e1
        unfold putVk at e2
        unfold putVe at e3
        rw [hinV, if_neg (fun h => by cases h.2)] at e1 e2
        rw [← HB.out, if_pos rfl, hinV, if_neg Bool.false_ne_true] at e3
        exact ⟨e1, e2, e3⟩
      by_cases h0 : i < 0
      · have d0 : decide (i < 0) = true := decide_eq_true h0
        clear h0 hin
        go_enter Try.func11, Try.ntmps11
        go_upto_region 1 with fail
        rw [← HW.out]
        go_wp2_with fail
        refine HM.out.mono ?_
        rintro e w1 ⟨rfl, g⟩
        replace P := Lib.hid (P.out.kp g)
        clear g z1
        have z0 := P.out.a.z0
        rw [sv_mk] at z0
        have z1 := P.out.a.z1
        have z2 := wrA_block P.out.r (vo_size _)
        go_wp2_with fail
        exact bodyPost_ret (results_agg3 Try.isAgg25 Try.sizeOf25 _ 8 9 10 rfl _ _ _ _ _ _ rfl rfl rfl (ldA_block (heap_putV P.out.r (by rw [vo_size, vo_size])) (vo_size _))) rfl ⟨⟨p, n, cp⟩, by rw [HR.out.1, HR.out.2.1, HR.out.2.2]; rfl, by rw [HR.out.1]; exact slE_put_vo (by decide) P.out.a.s P.out.r, below_stA P.out.a.g (by omega)⟩
      · have d0 : decide (i < 0) = false := decide_eq_false h0
        have d1 : decide ((n : Int) ≤ i) = true := decide_eq_true (by omega)
        clear h0 hin
        go_enter Try.func11, Try.ntmps11
        go_upto_region 1 with fail
        rw [← HW.out]
        go_wp2_with fail
        refine HM.out.mono ?_
        rintro e w1 ⟨rfl, g⟩
        replace P := Lib.hid (P.out.kp g)
        clear g z1
        have z0 := P.out.a.z0
        rw [sv_mk] at z0
        have z1 := P.out.a.z1
        have z2 := wrA_block P.out.r (vo_size _)
        go_wp2_with fail
        exact bodyPost_ret (results_agg3 Try.isAgg25 Try.sizeOf25 _ 8 9 10 rfl _ _ _ _ _ _ rfl rfl rfl (ldA_block (heap_putV P.out.r (by rw [vo_size, vo_size])) (vo_size _))) rfl ⟨⟨p, n, cp⟩, by rw [HR.out.1, HR.out.2.1, HR.out.2.2]; rfl, by rw [HR.out.1]; exact slE_put_vo (by decide) P.out.a.s P.out.r, below_stA P.out.a.g (by omega)⟩
theorem ref12Put (s : SlV) (v : Vt) (i : Int) (r : Rt) (ep : UInt64) (w : World) (h : SlE Elt w (sv s) v.l) (hn : v.l.length ≤ 1000) :
    Calls Try.prog 11 #[.agg (vo ⟨s, v.out⟩), .int .i64 i, .agg (rc r), .int .u64 (ep.toNat : Int)] w (VoEr (putV v i r ep) (putVk v i r ep) (putVe v i) w) := by
  have hl := sv_lenT h
  obtain ⟨p, n, cp⟩ := s
  dsimp only at hl
  exact ref12Put_n p n cp v i r ep w h hl (by omega)
theorem enters_ref12Put : ∀ args w, (callFunc 11 args).run Try.prog w = .ok (.enter 11 args) w := entersE Try.func11 (by kernel_rfl) (by kernel_rfl)
end Go.Proofs.Ytfmbgpjpkahmnaa
