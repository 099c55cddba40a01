/-
  Package vote: Put, walked. (written by a script)
-/
import Derived.Test.YtccihllcohnnnaaQ37
import Derived.Test.YtccihllcohnnnaaQ34
import Derived.Test.YtccihllcohnnnaaQ26
import Derived.Deep.Cut
namespace Go.Proofs.Ytccihllcohnnnaa
open Go.RowKit
set_option maxRecDepth 100000

theorem or_sum {j : Nat} (hj : j < 64) {out : UInt64} (h : hasB out j = false) : bits .or .u64 (out.toNat : Int) (bitN (j : Int) : Int) = ((out + bitU j).toNat : Int) := by
  have h1 : bitN (j : Int) = (bitU j).toNat := by
    unfold bitN bitU
    rw [if_pos ⟨by omega, by omega⟩, Int.toNat_natCast, UInt64.toNat_ofNat', Nat.mod_eq_of_lt (Nat.pow_lt_pow_right (by decide) hj)]
  rw [h1, bits_or_u64_nat _ _ out.toNat_lt (bitU j).toNat_lt, add_bit hj h, UInt64.toNat_or]
/-- A row of the call's own is no block of another type. -/
theorem ownE_neT {α : Type} {E : Lie α} {w : World} {base g : Nat} {v : Value} {l : List α} {c : Array Value} {t : TypeId} {fr : Nat × Nat} (h : OwnE E w base v l) (hg : w.heap[g]? = some (.cells c t fr)) (ht : t ≠ E.t) : v.ownBlock ≠ some g := by
  intro e
  rcases h.2 with ⟨rfl, _⟩ | ⟨g', cap, cur, rfl, _, hg', _⟩
  · cases e
  · have : g' = g := Option.some.inj e
    subst this
    rw [hg] at hg'
    injection hg' with hg'
    injection hg' with _ e2
    exact ht e2
theorem ownE_other {α : Type} {E : Lie α} {w w' : World} {base : Nat} {v : Value} {l : List α} (h : OwnE E w base v l) (hh : ∀ b, v.ownBlock = some b → w'.heap[b]? = w.heap[b]?) : OwnE E w' base v l := by
  refine ⟨h.1, ?_⟩
  rcases h.2 with h2 | ⟨g, cap, cur, rfl, hb, hg, hr⟩
  · exact .inl h2
  · exact .inr ⟨g, cap, cur, rfl, hb, (hh g rfl).trans hg, hr⟩

/-- Votes copied, in a variable, their row the call's own; an empty result. -/
structure Ow (w W : World) (R O : Nat) (s : SlV) (x : Vt) : Prop where
  g : Below w.heap.size w W
  r : W.heap[R]? = some (.cells (vo zvo) 28 (0, 0))
  o : W.heap[O]? = some (.cells (vo ⟨s, x.out⟩) 28 (0, 0))
  own : OwnE Elt W (R + 1) (sv s) x.l
  lo : R < O
  lr : w.heap.size ≤ R
section
variable {w W W' : World} {R O : Nat} {s : SlV} {x : Vt}
theorem Ow.keep (h : Ow w W R O s x) (g : Below W.heap.size W W') : Ow w W' R O s x := ⟨belowT h.g g, blk_keep g h.r, blk_keep g h.o, ownE_keep g h.own, h.lo, h.lr⟩
theorem votes_elt : 28 ≠ Elt.t := by decide
theorem Ow.elem {g n c : Nat} (h : Ow w W R O ⟨some ⟨g, 0, none⟩, n, c⟩ x) (hn : x.l.length = n) {j : Nat} (hj : j < n) (y : Lt) : Ow w (stA W (.pointer (some ⟨g, j * 34, none⟩)) (.agg (lt y))) R O ⟨some ⟨g, 0, none⟩, n, c⟩ ⟨x.l.set j y, x.out⟩ := by
  have hg : R + 1 ≤ g := (h.own.lt g rfl).1
  have hO : O ≠ g := fun e => ownE_neT h.own h.o votes_elt (by rw [e]; rfl)
  exact ⟨below_stA h.g (by have := h.lr; omega), (heap_stA (by omega)).trans h.r, (heap_stA hO).trans h.o, ownE_put h.own hn hj y (lt_list y), h.lo, h.lr⟩
theorem Ow.bit (h : Ow w W R O s x) (y : UInt64) : Ow w (W.setCell ⟨O, 1, none⟩ (.int .u64 (y.toNat : Int))) R O s ⟨x.l, y⟩ := by
  have hlo := h.lo
  have hlr := h.lr
  refine ⟨h.g.setCell (p := ⟨O, 1, none⟩) (show w.heap.size ≤ O by omega) _, ?_, ?_, ?_, h.lo, h.lr⟩
  · rw [Below.heap_setCell _ _ _ _ (show R ≠ O by omega)]; exact h.r
  · have := heap_setCell_same h.o 1 (.int .u64 (y.toNat : Int))
    rwa [vo_setn_out] at this
  · exact ownE_other h.own fun b hb => Below.heap_setCell _ _ _ _ (fun e => ownE_neT h.own h.o votes_elt (by rw [hb, e]))
theorem Ow.wr {g n c : Nat} (h : Ow w W R O ⟨some ⟨g, 0, none⟩, n, c⟩ x) (hn : x.l.length = n) {j : Nat} (hj : j < n) : wrA W (.pointer (some ⟨g, j * 34, none⟩)) 34 = true := by
  have := ownE_wr h.own hn hj
  rwa [Nat.zero_add] at this
theorem Ow.post (h : Ow w W R O s x) {V : Vt} {K N : Nat} {s0 : SlV} {k n : Int} (e : V = x ∧ K = k ∧ N = n) (hk : (.int .i64 k : Value) = .int .i64 k) (hn : (.int .i64 n : Value) = .int .i64 n) : VoErO V K N s0 w (.returned (.tuple #[.agg (vo ⟨s, x.out⟩), .int .i64 k, .int .i64 n])) (stA W (.pointer (some ⟨R, 0, none⟩)) (.agg (vo ⟨s, x.out⟩))) := by
  obtain ⟨rfl, rfl, rfl⟩ := e
  refine ⟨s, rfl, ownE_slE (ownE_stA h.own (Nat.lt_succ_self _)), below_stA h.g h.lr, fun b hb => .inr ?_⟩
  have := (h.own.lt b hb).1
  have := h.lr
  omega
theorem ow_new {p : Nat} {W1 : World} (g : Below w.heap.size w W) (hr : W.heap[R]? = some (.cells (vo zvo) 28 (0, 0))) (hR : W.heap.size = R + 1) (hlr : w.heap.size ≤ R) (ho : OwnE Elt W1 W.heap.size (sv s) x.l) (h1 : Below W.heap.size W W1) (hW : W' = W1.alloc (.cells (vo ⟨s, x.out⟩) 28)) (hp : p = W1.heap.size) : Ow w W' R p s x := by
  subst hW hp
  have hs := h1.size
  exact ⟨belowT (belowT g h1) below1, blk_keep (belowT h1 below1) hr, heap_alloc_last W1 _, ownE_keep below1 (by rw [← hR]; exact ho), by omega, hlr⟩
end

set_option maxRecDepth 100000 in
set_option maxHeartbeats 16000000 in
theorem votePut_n (p : Option Addr) (n cp : Nat) (v : Vt) (i : Int) (r : Rt) (ep : UInt64) (w : World) (h : SlE Elt w (.slice p n cp) v.l) (hl : v.l.length = n) (hn : n ≤ 1000) :
    Calls Try.prog 22 #[.agg (vo ⟨⟨p, n, cp⟩, v.out⟩), .int .i64 i, .agg (rc r), .int .u64 (ep.toNat : Int)] w (VoErO (putV v i r ep) (putVk v i r ep) (putVe v i) ⟨p, n, cp⟩ w) := by
  obtain ⟨W0, hW0⟩ : ∃ W0, W0 = ((w.alloc (.cells (vo ⟨⟨p, n, cp⟩, v.out⟩) 28)).alloc (.cells (rc r) 39)).alloc (.cells (vo zvo) 28) := ⟨_, rfl⟩
  obtain ⟨p0, hz⟩ := pw_new (s := ⟨p, n, cp⟩) hW0 h
  have HCp := Lib.hid (voteCopied ⟨p, n, cp⟩ v W0 p0.a.s (by omega))
  have HM := Lib.hid (fun W (hP : Pw w W ⟨p, n, cp⟩ v r) => voteMay ⟨p, n, cp⟩ v W hP.a.s)
  have P := Lib.hid p0
  have HZ : Hid (W0.heap.size = w.heap.size + 2 + 1) := hz
  have HW := Lib.hid hW0
  have HL := Lib.hid hl
  have HN := Lib.hid hn
  obtain ⟨V, hV⟩ : ∃ V, V = putV v i r ep := ⟨_, rfl⟩
  obtain ⟨k, hk⟩ : ∃ k, k = putVk v i r ep := ⟨_, rfl⟩
  obtain ⟨e, he⟩ : ∃ e, e = putVe v i := ⟨_, rfl⟩
  rw [← hV, ← hk, ← he]
  have HF := Lib.hid (show V = _ ∧ k = _ ∧ e = _ from ⟨hV, hk, he⟩)
  obtain ⟨may, hmay⟩ : ∃ b, b = mayV v := ⟨_, rfl⟩
  have HB := Lib.hid hmay
  rw [← hmay] at HM
  have H8 : Hid (may = true → n ≤ 8) := fun e => by rw [← HL.out]; exact (mayV_iff.1 (HB.out.symm.trans e)).2.1
  have z1 := p0.a.z1
  clear p0 hz hW0 h hl hn hV hk he hmay
  go_enter Try.func22, Try.ntmps22
  go_upto_region 1 with fail
  rw [← HW.out]
  go_wp2_with fail
  refine HCp.out.mono ?_
  rintro e1 w1 ⟨s2, rfl, ho, g⟩
  go_upto_region 2 with fail
  obtain ⟨w2, hw2⟩ : ∃ w2, w2 = w1.alloc (.cells (vo ⟨s2, v.out⟩) 28) := ⟨_, rfl⟩
  rw [← hw2]
  have hp1 := P.out
  have Q : Hid (Ow w w2 (w.heap.size + 2) w1.heap.size s2 v) := ow_new hp1.a.g hp1.r HZ.out (by omega) ho g hw2 rfl
  replace P := Lib.hid (hp1.kp (W' := w2) (belowT g (by rw [hw2]; exact below1)))
  obtain ⟨O, hO⟩ : ∃ O, O = w1.heap.size := ⟨_, rfl⟩
  rw [← hO] at Q ⊢
  clear hw2 hp1 ho g z1 hO HCp
  have z1 := P.out.a.z1
  go_wp2_with fail
  refine (HM.out _ P.out).mono ?_
  rintro e1 w3 ⟨rfl, g⟩
  replace P := Lib.hid (P.out.kp g)
  replace Q := Lib.hid (Q.out.keep g)
  clear g z1
  have z0 := P.out.a.z0
  rw [sv_mk] at z0
  have z1 := P.out.a.z1
  have y1 := (vo_cells Q.out.o).2.2.1
  have z2 := wrA_block Q.out.r (vo_size _)
  cases may
  · have HR : Hid (V = v ∧ (k : Int) = 0 ∧ (e : Int) = 1) := by
      show _ ∧ _ ∧ _
      obtain ⟨e1, e2, e3⟩ := HF.out
      unfold putV at e1
      unfold putVk at e2
      unfold putVe at e3
      rw [← HB.out, if_neg (fun h => by cases h.1)] at e1 e2
      rw [← HB.out, if_neg Bool.false_ne_true] at e3
      exact ⟨e1, by omega, by omega⟩
    go_wp2_with fail
    exact bodyPost_ret (results_agg3 Try.isAgg28 Try.sizeOf28 _ 8 9 10 rfl _ _ _ _ _ _ rfl rfl rfl (ldA_block (heap_putV Q.out.r (by rw [vo_size, vo_size])) (vo_size _))) rfl (Q.out.post HR.out rfl rfl)
  · by_cases hin : 0 ≤ i ∧ i < n
    · obtain ⟨j, rfl⟩ : ∃ j : Nat, i = j := ⟨i.toNat, by omega⟩
      have hlt : j < n := by omega
      have hj8 : j < 64 := by have := H8.out rfl; omega
      have hinV : inV v (j : Int) = true := decide_eq_true (by rw [HL.out]; exact hin)
      have HE : Hid (V = stepV v j r ep ∧ k = fateV v j r ep ∧ e = 0) := by
        show _ ∧ _ ∧ _
        obtain ⟨e1, e2, e3⟩ := HF.out
        unfold putV at e1
        unfold putVk at e2
        unfold putVe at e3
        rw [← HB.out, if_pos ⟨rfl, hinV⟩, Int.toNat_natCast] at e1 e2
        rw [← HB.out, if_pos rfl, if_pos hinV] at e3
        exact ⟨e1, e2, e3⟩
      have HLT := Lib.hid hlt
      have H64 := Lib.hid hj8
      have i0 : (0 : Int) ≤ (j : Int) := by omega
      have i1 : (j : Int) < (n : Int) := by omega
      have d0 : decide ((j : Int) < 0) = false := decide_eq_false (by omega)
      have d1 : decide ((n : Int) ≤ (j : Int)) = false := decide_eq_false (by omega)
      have d1' : decide (n ≤ j) = false := decide_eq_false (by omega)
      obtain ⟨b, hb⟩ : ∃ b, b = hasB v.out j := ⟨_, rfl⟩
      have HO := Lib.hid (fun W => voteOut ⟨p, n, cp⟩ v.out hj8 W)
      rw [← hb] at HO
      have HBb := Lib.hid hb
      clear hinV hin hlt hj8 hb
      go_wp2_with fail
      refine (HO.out _).mono ?_
      rintro e1 w4 ⟨rfl, g⟩
      replace P := Lib.hid (P.out.kp g)
      replace Q := Lib.hid (Q.out.keep g)
      clear g z0 z1 z2 y1
      have z2 := wrA_block Q.out.r (vo_size _)
      have y1 := (vo_cells Q.out.o).2.2.1
      cases b
      · go_upto_region 8 with fail
        obtain ⟨b1, o1, rfl, _, q1⟩ := lats_ptr P.out.a.s (by rw [HL.out]; have := HLT.out; omega)
        have e0 := lats_ld q1 (i := j) (by rw [HL.out]; exact HLT.out)
        have z0 := P.out.a.z0
        rw [sv_mk] at z0
        have La := fun q : Wd w4.drew => wd_cell z0 q
        have Lb := fun q : Wd w4.drew => wd_ld e0 (by decide) q
        have Lc := fun q : Wd w4.drew => wd_ld (ldA_block P.out.u (rc_size _)) (by decide) q
        have HFt := Lib.hid (fateV_of (i := j) (r := r) (ep := ep) HBb.out.symm)
        obtain ⟨x, hx⟩ : ∃ x, x = lat v.l j := ⟨_, rfl⟩
        rw [← hx] at Lb HFt
        have HFC := Lib.hid (fun W => voteFate x r ep W)
        obtain ⟨f, hf⟩ : ∃ f, f = fateL x r ep := ⟨_, rfl⟩
        rw [← hf] at HFt HFC
        have Hf3 : Hid (f = 0 ∨ f = 1 ∨ f = 2) := by
          show _ ∨ _ ∨ _
          rw [hf]; unfold fateL
          split
          · exact .inl rfl
          · split
            · exact .inr (.inr rfl)
            · exact .inr (.inl rfl)
        clear q1 e0 hx hf z0 z2 y1
        refine wp_region_lex [7] (by kernel_rfl) (by kernel_rfl) (by kernel_rfl) ?_
        repeat (refine wpXL_quiet rfl rfl _ cls_begin ?_; (first | go_big_quiet_step (fail) | quiet_step (fail)); refine wpQuiet_nil ?_)
        refine wpXL_call rfl rfl rfl enters_voteFate #[.agg (lt x), .agg (rc r), .int .u64 (ep.toNat : Int)] rfl ?_
        refine (HFC.out _).mono ?_
        rintro e1 u ⟨rfl, g⟩
        refine ⟨_, rfl, g, ?_⟩
        simp only [Act.put, List.setIfInBounds_toArray, List.set_cons_zero, List.set_cons_succ]
        have GU : Below w4.heap.size w4 u := belowT (belowD (Below.refl _ _) 1) g
        replace P := Lib.hid (P.out.kp GU)
        replace Q := Lib.hid (Q.out.keep GU)
        clear g GU La Lb Lc
        repeat (refine wpXL_quiet rfl rfl _ cls_begin ?_; (first | go_big_quiet_step (fail) | quiet_step (fail)); refine wpQuiet_nil ?_)
        refine wpXL_nil ?_
        obtain ⟨g2, c2, rfl⟩ : ∃ g2 c2 : Nat, s2 = ⟨some ⟨g2, 0, none⟩, n, c2⟩ := by
          obtain ⟨g2, c2, e, _⟩ := ownT_form Q.out.own HL.out (by have := HLT.out; omega)
          obtain ⟨sp, sn, sc⟩ := s2
          rw [sv_mk] at e
          injection e with e1 e2 e3
          exact ⟨g2, c2, by rw [e1, e2, e3]⟩
        have yw := Q.out.wr HL.out HLT.out
        have y0 := (vo_cells Q.out.o).1
        dsimp only at y0
        rw [sv_mk] at y0
        rcases Hf3.out with rfl | rfl | rfl
        · have HR : Hid (V = v ∧ (k : Int) = 0 ∧ (e : Int) = 0) := by
            show _ ∧ _ ∧ _
            obtain ⟨e1, e2, e3⟩ := HE.out
            rw [fate_zero HFt.out] at e1
            rw [HFt.out] at e2
            exact ⟨e1, by omega, by omega⟩
          have y1 := (vo_cells Q.out.o).2.2.1
          have z2 := wrA_block Q.out.r (vo_size _)
          go_wp2_with fail
          exact bodyPost_ret (results_agg3 Try.isAgg28 Try.sizeOf28 _ 8 9 10 rfl _ _ _ _ _ _ rfl rfl rfl (ldA_block (heap_putV Q.out.r (by rw [vo_size, vo_size])) (vo_size _))) rfl (Q.out.post HR.out rfl rfl)
        · have HR : Hid (V = ⟨v.l.set j ⟨true, r, ep⟩, v.out⟩ ∧ (k : Int) = 1 ∧ (e : Int) = 0) := by
            show _ ∧ _ ∧ _
            obtain ⟨e1, e2, e3⟩ := HE.out
            rw [fate_one HFt.out] at e1
            rw [HFt.out] at e2
            exact ⟨e1, by omega, by omega⟩
          have zu := ldA_block P.out.u (rc_size _)
          go_upto_region 15 with fail
          obtain ⟨w5, hw5⟩ : ∃ w5, w5 = stA u (.pointer (some ⟨g2, j * 34, none⟩)) (.agg (lt ⟨true, r, ep⟩)) := ⟨_, rfl⟩
          rw [← hw5]
          replace Q : Hid (Ow w w5 (w.heap.size + 2) O ⟨some ⟨g2, 0, none⟩, n, c2⟩ ⟨v.l.set j ⟨true, r, ep⟩, v.out⟩) := by rw [hw5]; exact Q.out.elem HL.out HLT.out _
          clear hw5 yw y0 zu
          have y1 := (vo_cells Q.out.o).2.2.1
          have z2 := wrA_block Q.out.r (vo_size _)
          go_wp2_with fail
          exact bodyPost_ret (results_agg3 Try.isAgg28 Try.sizeOf28 _ 8 9 10 rfl _ _ _ _ _ _ rfl rfl rfl (ldA_block (heap_putV Q.out.r (by rw [vo_size, vo_size])) (vo_size _))) rfl (Q.out.post HR.out rfl rfl)
        · have HR : Hid (V = ⟨v.l.set j zlt, v.out + bitU j⟩ ∧ (k : Int) = 2 ∧ (e : Int) = 0) := by
            show _ ∧ _ ∧ _
            obtain ⟨e1, e2, e3⟩ := HE.out
            rw [fate_two HFt.out] at e1
            rw [HFt.out] at e2
            exact ⟨e1, by omega, by omega⟩
          go_upto_region 14 with fail
          obtain ⟨w5, hw5⟩ : ∃ w5, w5 = stA u (.pointer (some ⟨g2, j * 34, none⟩)) (.agg (lt zlt)) := ⟨_, rfl⟩
          rw [← hw5]
          replace Q : Hid (Ow w w5 (w.heap.size + 2) O ⟨some ⟨g2, 0, none⟩, n, c2⟩ ⟨v.l.set j zlt, v.out⟩) := by rw [hw5]; exact Q.out.elem HL.out HLT.out _
          have hwB : O ≤ w5.heap.size := Nat.le_of_lt (Array.getElem?_eq_some_iff.1 Q.out.o).1
          have HBt := Lib.hid (fun W => stakeBit (j : Int) W)
          have hsum := or_sum H64.out HBb.out.symm
          have Q0 := wd_cell (vo_cells Q.out.o).2.1
          dsimp only at Q0
          obtain ⟨M, hM⟩ : ∃ M, M = (v.out.toNat : Int) := ⟨_, rfl⟩
          obtain ⟨Bn, hBn⟩ : ∃ Bn, Bn = (bitN (j : Int) : Int) := ⟨_, rfl⟩
          rw [← hM] at Q0 hsum
          rw [← hBn] at HBt hsum
          clear hw5 yw y0 hM hBn
          refine wp_region_lexT O [1] [3, 6] (by kernel_rfl) (by kernel_rfl) (by kernel_rfl) ?_
          refine wpXT_quiet2 rfl rfl rfl hwB ?_
          (first | go_big_quiet_step (fail) | quiet_step (fail)); refine wpQuiet_nil ?_
          refine wpXT_quiet1 rfl rfl rfl hwB ?_
          (first | go_big_quiet_step (fail) | quiet_step (fail)); refine wpQuiet_nil ?_
          refine wpXT_quiet2 rfl rfl rfl hwB ?_
          (first | go_big_quiet_step (fail) | quiet_step (fail)); refine wpQuiet_nil ?_
          refine wpXT_call rfl rfl rfl enters_stakeBit #[.int .i64 (j : Int)] rfl ?_
          refine (HBt.out _).mono ?_
          rintro e1 u2 ⟨rfl, gu⟩
          refine ⟨_, rfl, gu, ?_⟩
          simp only [Act.put, List.setIfInBounds_toArray, List.set_cons_zero, List.set_cons_succ]
          have GU : Below w5.heap.size w5 u2 := belowT (belowD (Below.refl _ _) 1) gu
          replace Q := Lib.hid (Q.out.keep GU)
          clear gu GU
          repeat (refine wpXT_quiet2 rfl rfl rfl hwB ?_; (first | go_big_quiet_step (fail) | quiet_step (fail)); refine wpQuiet_nil ?_)
          obtain ⟨W6, hW6⟩ : ∃ W6, W6 = u2.setCell ⟨O, 1, none⟩ (.int .u64 ((v.out + bitU j).toNat : Int)) := ⟨_, rfl⟩
          have f0 := frozen_of_row u2 O 1 _ _ Q.out.o
          have f2 := (vo_cells Q.out.o).2.1
          dsimp only at f2
          replace Q : Hid (Ow w W6 (w.heap.size + 2) O ⟨some ⟨g2, 0, none⟩, n, c2⟩ ⟨v.l.set j zlt, v.out + bitU j⟩) := by rw [hW6]; exact Q.out.bit _
          have HW6 := Lib.hid hW6
          clear hW6
          refine wpXT_store rfl rfl W6 (by rw [HW6.out]; go_simp) (relE_tail (by kernel_rfl) (by rw [HW6.out]; exact (Below.refl _ _).setCell (p := ⟨O, 1, none⟩) (Nat.le_refl _) _)) ?_
          simp only [Act.put]
          refine wpXT_nil ?_
          clear Q0 hwB f0 f2 hsum
          have y1 := (vo_cells Q.out.o).2.2.1
          have z2 := wrA_block Q.out.r (vo_size _)
          go_wp2_with fail
          exact bodyPost_ret (results_agg3 Try.isAgg28 Try.sizeOf28 _ 8 9 10 rfl _ _ _ _ _ _ rfl rfl rfl (ldA_block (heap_putV Q.out.r (by rw [vo_size, vo_size])) (vo_size _))) rfl (Q.out.post HR.out rfl rfl)
      · have HR : Hid (V = v ∧ (k : Int) = 0 ∧ (e : Int) = 0) := by
          show _ ∧ _ ∧ _
          have hf : fateV v j r ep = 0 := by unfold fateV; rw [← HBb.out, if_pos rfl]
          obtain ⟨e1, e2, e3⟩ := HE.out
          rw [fate_zero hf] at e1
          rw [hf] at e2
          exact ⟨e1, by omega, by omega⟩
        go_wp2_with fail
        exact bodyPost_ret (results_agg3 Try.isAgg28 Try.sizeOf28 _ 8 9 10 rfl _ _ _ _ _ _ rfl rfl rfl (ldA_block (heap_putV Q.out.r (by rw [vo_size, vo_size])) (vo_size _))) rfl (Q.out.post HR.out rfl rfl)
    · have HR : Hid (V = v ∧ (k : Int) = 0 ∧ (e : Int) = 10) := by
        show _ ∧ _ ∧ _
        have hinV : inV v i = false := decide_eq_false (by rw [HL.out]; exact hin)
        obtain ⟨e1, e2, e3⟩ := HF.out
        unfold putV at e1
        unfold putVk at e2
        unfold putVe at e3
        rw [hinV, if_neg (fun h => by cases h.2)] at e1 e2
        rw [← HB.out, if_pos rfl, hinV, if_neg Bool.false_ne_true] at e3
        exact ⟨e1, by omega, by omega⟩
      by_cases h0 : i < 0
      · have d0 : decide (i < 0) = true := decide_eq_true h0
        clear h0 hin
        go_wp2_with fail
        exact bodyPost_ret (results_agg3 Try.isAgg28 Try.sizeOf28 _ 8 9 10 rfl _ _ _ _ _ _ rfl rfl rfl (ldA_block (heap_putV Q.out.r (by rw [vo_size, vo_size])) (vo_size _))) rfl (Q.out.post HR.out rfl rfl)
      · have d0 : decide (i < 0) = false := decide_eq_false h0
        have d1 : decide ((n : Int) ≤ i) = true := decide_eq_true (by omega)
        clear h0 hin
        go_wp2_with fail
        exact bodyPost_ret (results_agg3 Try.isAgg28 Try.sizeOf28 _ 8 9 10 rfl _ _ _ _ _ _ rfl rfl rfl (ldA_block (heap_putV Q.out.r (by rw [vo_size, vo_size])) (vo_size _))) rfl (Q.out.post HR.out rfl rfl)
theorem votePutO (s : SlV) (v : Vt) (i : Int) (r : Rt) (ep : UInt64) (w : World) (h : SlE Elt w (sv s) v.l) (hn : v.l.length ≤ 1000) :
    Calls Try.prog 22 #[.agg (vo ⟨s, v.out⟩), .int .i64 i, .agg (rc r), .int .u64 (ep.toNat : Int)] w (VoErO (putV v i r ep) (putVk v i r ep) (putVe v i) s w) := by
  have hl := sv_lenT h
  obtain ⟨p, n, cp⟩ := s
  dsimp only at hl
  exact votePut_n p n cp v i r ep w h hl (by omega)
theorem votePut (s : SlV) (v : Vt) (i : Int) (r : Rt) (ep : UInt64) (w : World) (h : SlE Elt w (sv s) v.l) (hn : v.l.length ≤ 1000) :
    Calls Try.prog 22 #[.agg (vo ⟨s, v.out⟩), .int .i64 i, .agg (rc r), .int .u64 (ep.toNat : Int)] w (VoEr (putV v i r ep) (putVk v i r ep) (putVe v i) w) :=
  (votePutO s v i r ep w h hn).mono fun _ _ ⟨s', e, h1, h2, _⟩ => ⟨s', e, h1, h2⟩
end Go.Proofs.Ytccihllcohnnnaa
