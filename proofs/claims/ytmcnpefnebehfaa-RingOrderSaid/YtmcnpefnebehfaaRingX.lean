/-
  The law RingOrder, walked.
-/
import Derived.Test.YtmcnpefnebehfaaRingW
namespace Go.Proofs.Ytmcnpefnebehfaa
open Go.RowKit

/-- Two rows in blocks of their own. -/
def Sep (u v : Value) : Prop := ∀ b, u.ownBlock = some b → v.ownBlock ≠ some b
theorem sep_left {w w' : World} {base : Nat} {u v u' : Value} {l : List Int} (h : Sep u v) (ho : OwnI w base v l) (g : GrI w u w' u') : Sep u' v := by
  intro b hb hv
  rcases g.2 with g2 | g2
  · rw [g2] at hb; exact h b hb hv
  · have := g2 b hb
    have := (World.ownsRow.lt ho b hv).2
    omega
theorem sep_right {w w' : World} {base : Nat} {u v v' : Value} {l : List Int} (h : Sep u v) (ho : OwnI w base u l) (g : GrI w v w' v') : Sep u v' := by
  intro b hb hv
  rcases g.2 with g2 | g2
  · rw [g2] at hv; exact h b hb hv
  · have := g2 b hv
    have := (World.ownsRow.lt ho b hb).2
    omega
theorem own_left {w w' : World} {base : Nat} {u v u' : Value} {l : List Int} (h : Sep u v) (ho : OwnI w base v l) (g : GrI w u w' u') : OwnI w' base v l :=
  ownI_block ho fun b hlt hb => g.block hlt fun e => h b e hb
theorem own_right {w w' : World} {base : Nat} {u v v' : Value} {l : List Int} (h : Sep u v) (ho : OwnI w base u l) (g : GrI w v w' v') : OwnI w' base u l :=
  ownI_block ho fun b hlt hb => g.block hlt fun e => h b hb e
theorem ownI_len {W : World} {base : Nat} {v : Value} {l : List Int} {n : Nat} (h : OwnI W base v l) (hn : l.length = n) : ∃ p cap, v = .slice p n cap := slI_len (ownI_slI h) hn
/-- Both rows, and all below. -/
structure Two (w0 w : World) (u v : Value) (I O : List Int) : Prop where
  fu : OwnI w w0.heap.size u I
  fv : OwnI w w0.heap.size v O
  s : Sep u v
  b : Below w0.heap.size w0 w
theorem Two.alloc {w0 w : World} {u v : Value} {I O : List Int} (h : Two w0 w u v I O) (o : Obj) : Two w0 (w.alloc o) u v I O := ⟨ownI_alloc h.fu o, ownI_alloc h.fv o, h.s, h.b.alloc h.b.size o⟩
theorem Two.left {w0 w w' : World} {u v u' : Value} {I I' O : List Int} (h : Two w0 w u v I O) (ho : OwnI w' w0.heap.size u' I') (g : GrI w u w' u') : Two w0 w' u' v I' O := ⟨ho, own_left h.s h.fv g, sep_left h.s h.fv g, h.b.trans (g.own h.fu h.b.size)⟩
theorem Two.right {w0 w w' : World} {u v v' : Value} {I O O' : List Int} (h : Two w0 w u v I O) (ho : OwnI w' w0.heap.size v' O') (g : GrI w v w' v') : Two w0 w' u v' I O' := ⟨own_right h.s h.fu g, ho, sep_right h.s h.fu g, h.b.trans (g.own h.fv h.b.size)⟩

set_option maxRecDepth 100000 in
set_option maxHeartbeats 1000000 in
theorem ringOrder_off (c : Int) (p : Option Addr) (cap n : Nat) (l : List Int) (pa : Option Addr) (ca na : Nat) (w : World) (hn : l.length = n) (h : mayB c l = false ∨ (mayB c l = true ∧ 100 < na)) :
    Calls Try.prog 4 #[.agg #[.int .i64 c, .slice p n cap], .slice pa na ca] w fun e w' => e = .returned (.bool true) ∧ Below w.heap.size w w' := by
  have M0 : Hid ((w.alloc (rgO c (.slice p n cap))).heap[w.heap.size]? = some (rgO c (.slice p n cap))) := heap_alloc_last w _
  rcases h with hm | ⟨hm, h1⟩
  · have HC := Lib.hid (fun W => may_is c p n cap l false W hn hm)
    clear hn hm
    go_enter Try.func4, Try.ntmps4
    go_wp2_with fail
    refine (awake_any _).mono ?_
    rintro e w1 ⟨rfl, g1⟩
    obtain ⟨x0, x1, _, _, xl⟩ := cells2 (blk_keep g1 M0.out)
    go_wp2_with fail
    refine (HC.out _).mono ?_
    rintro e w2 ⟨rfl, g2⟩
    go_wp2_with fail
    go_ret
    exact ⟨rfl, belowT (belowT below1 g1) g2⟩
  · have HC := Lib.hid (fun W => may_is c p n cap l true W hn hm)
    have z1 : decide ((100 : Int) < (na : Int)) = true := by simp; omega
    clear hn hm h1
    go_enter Try.func4, Try.ntmps4
    go_wp2_with fail
    refine (awake_any _).mono ?_
    rintro e w1 ⟨rfl, g1⟩
    obtain ⟨x0, x1, _, _, xl⟩ := cells2 (blk_keep g1 M0.out)
    go_wp2_with fail
    refine (HC.out _).mono ?_
    rintro e w2 ⟨rfl, g2⟩
    go_wp2_with fail
    go_ret
    exact ⟨rfl, belowT (belowT below1 g1) g2⟩

set_option maxRecDepth 100000 in
set_option maxHeartbeats 2000000 in
theorem ringOrder_on (c : Int) (p : Option Addr) (cap n : Nat) (l : List Int) (pa : Option Addr) (ca m : Nat) (ns : List Int) (w : World) (h : SlI w (.slice p n cap) l) (hv : SlI w (.slice pa m ca) ns) (hn : l.length = n) (hm : mayB c l = true) (hns : ns.length = m) (hm2 : m ≤ 100) :
    Calls Try.prog 4 #[.agg #[.int .i64 c, .slice p n cap], .slice pa m ca] w fun e w' => e = .returned (.bool true) ∧ Below w.heap.size w w' := by
  have hl : l.length ≤ 8 := may_len hm
  have z1 : decide ((100 : Int) < (m : Int)) = false := by simp; omega
  have HC := Lib.hid (fun W => may_is c p n cap l true W hn hm)
  have HR := Lib.hid (fun W h hq => run_is c (.slice p n cap) l (.slice pa m ca) ns (runL c l ns) (toldL c l ns) W h hq (by omega) (by omega) (by unfold goL; rw [if_pos hm]) (by unfold goT; rw [if_pos hm]))
  have HTL := Lib.hid (show (toldL c l ns).length = m by rw [toldL_length]; exact hns)
  have HG : Hid (∀ j, j < m → it (toldL c l ns) j = toldX c (runL c l (ns.take j)) (it ns j)) := fun j hj => toldL_get c l ns j (by omega)
  have HSn : Hid (∀ j, j < m → runL c l (ns.take (j + 1)) = stepL c (runL c l (ns.take j)) (it ns j)) := fun j hj => by rw [take_snocI ns j (by omega), runL_snoc]
  have HM : Hid (∀ j, mayB c (runL c l (ns.take j)) = true) := fun j => run_may _ hm
  have HF : Hid (runL c l (ns.take m) = runL c l ns) := by show _ = _; rw [← hns, List.take_length]
  have HL := Lib.hid (show n ≤ 8 by omega)
  have HLE := Lib.hid hn
  have HN := Lib.hid hns
  have HM2 := Lib.hid hm2
  have R0 : Hid (Rg (w.alloc (rgO c (.slice p n cap))) w.heap.size c (.slice p n cap) l) := Rg.new h
  have V0 := Lib.hid (slI_keep (below1 (o := rgO c (.slice p n cap))) hv)
  clear hl hn hm hns hm2 h hv
  go_enter Try.func4, Try.ntmps4
  go_wp2_with fail
  refine (awake_any _).mono ?_
  rintro e w1 ⟨rfl, g1⟩
  have R1 := Lib.hid (R0.out.keep g1)
  have B1 := Lib.hid (belowT (below1 (o := rgO c (.slice p n cap))) g1)
  have V1 := Lib.hid (slI_keep g1 V0.out)
  obtain ⟨x0, x1, _, _, xl⟩ := cells2 R1.out.m
  clear g1
  go_wp2_with fail
  refine (HC.out _).mono ?_
  rintro e w2 ⟨rfl, g2⟩
  have R2 := Lib.hid (R1.out.keep g2)
  have B2 := Lib.hid (belowT B1.out g2)
  have V2 := Lib.hid (slI_keep g2 V1.out)
  clear g2 x0 x1 xl
  obtain ⟨x0, x1, _, _, xl⟩ := cells2 R2.out.m
  go_wp2_with fail
  refine (HR.out _ R2.out.s V2.out).mono ?_
  rintro e w3 ⟨v3, q3, rfl, s3, y3, g3⟩
  obtain ⟨w4, hw4⟩ : ∃ w4, w4 = w3.alloc (rgO c v3) := ⟨_, rfl⟩
  have G4 : Below w2.heap.size w2 w4 := by rw [hw4]; exact belowT g3 below1
  have R4 := Lib.hid (R2.out.keep G4)
  have V4 := Lib.hid (slI_keep G4 V2.out)
  have B4 := Lib.hid (belowT B2.out G4)
  have S4 : Hid (Rg w4 w3.heap.size c v3 (runL c l ns)) := by rw [hw4]; exact Rg.new s3
  have T4 : Hid (SlI w4 q3 (toldL c l ns)) := by rw [hw4]; exact slI_keep below1 y3
  obtain ⟨n3, hn3⟩ : ∃ n3, (runL c l ns).length = n3 := ⟨_, rfl⟩
  obtain ⟨p3, cap3, rfl⟩ := slI_len s3 hn3
  obtain ⟨pt, capt, rfl⟩ := slI_len y3 HTL.out
  have HW := Lib.hid hw4
  have HKL := Lib.hid (show (runL c l ns).length ≤ 8 by have := may_len (HM.out m); rwa [HF.out] at this)
  clear g3 G4 s3 y3 hw4 x0 x1 xl hn3
  generalize toldL c l ns = T at *
  generalize runL c l ns = K at *
  obtain ⟨x0, x1, _, _, xl⟩ := cells2 R4.out.m
  rw [HW.out] at x0 x1 xl
  go_wp2_with (
    at_builtin
    rw [← HW.out]
    refine wpList_append_ints w4 rfl (.const (.slice none 0 0)) (.tmp 38) rfl w4.heap.size _ [] rfl (ownI_nil _ _) _ l rfl R4.out.s (by have := HL.out; have := HLE.out; simp; omega) (Nat.le_refl _) ?_
    intro v5 w5 ho5 hg5
    have T5 := Lib.hid (show Two w4 w5 v5 (.slice none 0 0) l [] from ⟨ho5, ownI_nil _ _, fun b _ e => by (cases e), hg5.own (ownI_nil w4 w4.heap.size) (Nat.le_refl _)⟩)
    clear ho5 hg5)
  clear x0 x1 xl z1
  go_loopw [8, 9, 10] (fun u v i wr => ∃ (j : Nat) (I O : List Int), j ≤ m ∧ i = .int .i64 j ∧ I = O ++ runL c l (ns.take j) ∧ I.length ≤ 8 + j ∧ Two w4 wr u v I O) (fun _ _ i _ => m - (intOf i).toNat)
  case atStart => exact ⟨0, l, [], Nat.zero_le _, rfl, rfl, by have := HL.out; have := HLE.out; omega, T5.out⟩
  case round =>
    obtain ⟨j, I, O, hj, rfl, hI, hlI, ht⟩ := hrel
    have HT := Lib.hid ht
    have HI := Lib.hid hI
    have HLI := Lib.hid hlI
    clear hI hlI ht T5
    by_cases hlt : j < m
    · have i0 : (0 : Int) ≤ (j : Int) := by omega
      have i1 : (j : Int) < (m : Int) := by omega
      have u1 : (j : Int) + 1 < 10000 := by have := HM2.out; omega
      obtain ⟨b, off, cap', e1, _, q1, y1⟩ := slI_ne V4.out (by have := HN.out; omega)
      injection e1 with e2 e4 e3
      subst e2 e3
      clear e4
      obtain ⟨b', off', cap'', e1, _, q2, y2⟩ := slI_ne T4.out (by have := HTL.out; omega)
      injection e1 with e2 e4 e3
      subst e2 e3
      clear e4
      have d1 : wr.cell? ⟨b, off + j, none⟩ = some (.int .i64 (it ns j)) := (HT.out.b.cell (p := ⟨b, off + j, none⟩) q1).trans (y1 j (by have := HN.out; omega))
      have d2 : wr.cell? ⟨b', off' + j, none⟩ = some (.int .i64 (it T j)) := (HT.out.b.cell (p := ⟨b', off' + j, none⟩) q2).trans (y2 j (by have := HTL.out; omega))
      have hst := HSn.out j hlt
      have hgt := HG.out j hlt
      have hmk := HM.out j
      have HBL := Lib.hid q1
      clear y1 y2 q1 q2
      generalize runL c l (ns.take j) = k at *
      generalize it ns j = nj at *
      obtain ⟨na, hna⟩ : ∃ na, I.length = na := ⟨_, rfl⟩
      obtain ⟨no, hno⟩ : ∃ no, O.length = no := ⟨_, rfl⟩
      have hlen : na = no + k.length := by rw [← hna, ← hno, HI.out, List.length_append]
      obtain ⟨p8, cap8, rfl⟩ := ownI_len HT.out.fu hna
      obtain ⟨p9, cap9, rfl⟩ := ownI_len HT.out.fv hno
      have HNA := Lib.hid hna
      have HNO := Lib.hid hno
      clear hna hno
      by_cases hneg : nj < 0
      · have g1 : decide (0 ≤ nj) = false := by rw [decide_eq_false_iff_not]; omega
        by_cases hk0 : k.length = 0
        · have hs : stepL c k nj = k := by
            unfold stepL; rw [if_pos hneg]
            have : k = [] := List.length_eq_zero_iff.1 hk0
            subst this; rfl
          have g2 : decide (no < na) = false := by rw [decide_eq_false_iff_not]; omega
          have g3 : ¬ (no : Int) < (na : Int) := by omega
          have HST := Lib.hid (hst.trans hs)
          clear hst hs hgt hmk hk0 hlen
          go_wp2_with fail
          go_roundw
          case rel => exact ⟨j + 1, I, O, by omega, by go_num, by rw [HST.out]; exact HI.out, by have := HLI.out; omega, HT.out⟩
          case measure => simp [intOf]; omega
        · have hs : stepL c k nj = k.drop 1 := by unfold stepL; rw [if_pos hneg]
          have HXX := Lib.hid (show it T j = it k 0 by rw [hgt]; unfold toldX; rw [if_pos hneg, if_neg hk0])
          have g2 : decide (no < na) = true := by rw [decide_eq_true_iff]; omega
          have g3 : (no : Int) < (na : Int) := by omega
          have HST := Lib.hid (hst.trans hs)
          have HKK := Lib.hid (show k = it k 0 :: k.drop 1 by
            cases k with
            | nil => simp at hk0
            | cons a t => rfl)
          have HLO := Lib.hid (show O.length + 1 ≤ 1000000 by have := HNO.out; have := HNA.out; have := HLI.out; have := HM2.out; omega)
          clear hst hs hgt hmk hk0 hlen
          go_wp2_with (at_builtin; refine wpList_append_ints _ rfl (.tmp 77) (.tmp 82) rfl w4.heap.size _ _ rfl (ownI_alloc HT.out.fv _) _ [it T j] rfl (slI_lit _ [it T j] _ _ _ rfl rfl) HLO.out (by have := HT.out.b.size; simp; omega) ?_; intro v6 w6 ho6 hg6)
          have T6 := Lib.hid ((HT.out.alloc _).right ho6 hg6)
          clear ho6 hg6
          go_roundw
          case rel => exact ⟨j + 1, I, _, by omega, by go_num, by rw [HST.out, HI.out, HXX.out, List.append_assoc, List.singleton_append, ← HKK.out], by have := HLI.out; omega, T6.out⟩
          case measure => simp [intOf]; omega
      · have g1 : decide (nj < 0) = false := by rw [decide_eq_false_iff_not]; exact hneg
        have g1' : (0 : Int) ≤ nj := by omega
        by_cases hkc : (k.length : Int) < c
        · have hs : stepL c k nj = k ++ [nj] := by unfold stepL; rw [if_neg hneg, if_pos hkc]
          have hx : it T j = 1 := by rw [hgt]; unfold toldX; rw [if_neg hneg, if_pos hkc]
          have HST := Lib.hid (hst.trans hs)
          have HLO := Lib.hid (show I.length + 1 ≤ 1000000 by have := HLI.out; have := HM2.out; omega)
          rw [hx] at d2
          clear hst hs hgt hmk hkc hlen hneg hx
          go_wp2_with (at_builtin; refine wpList_append_ints _ rfl (.tmp 58) (.tmp 63) rfl w4.heap.size _ _ rfl (ownI_alloc HT.out.fu _) _ [nj] rfl (slI_lit _ [nj] _ _ _ rfl rfl) HLO.out (by have := HT.out.b.size; simp; omega) ?_; intro v6 w6 ho6 hg6; have T6 := Lib.hid ((HT.out.alloc _).left ho6 hg6); have d3 : w6.cell? ⟨b, off + j, none⟩ = some (.int .i64 nj) := (T6.out.b.cell (p := ⟨b, off + j, none⟩) (block_lt_of_cell (show w4.cell? ⟨b, off + j, none⟩ = _ from by rw [← HT.out.b.cell (p := ⟨b, off + j, none⟩) HBL.out]; exact d1))).trans ((HT.out.b.cell (p := ⟨b, off + j, none⟩) HBL.out).symm.trans d1))
          clear d3
          go_roundw
          case rel => exact ⟨j + 1, _, O, by omega, by go_num, by rw [HST.out, HI.out, List.append_assoc], by have := HLI.out; simp; omega, T6.out⟩
          case measure => simp [intOf]; omega
        · have hs : stepL c k nj = k := by unfold stepL; rw [if_neg hneg, if_neg hkc]
          have hx : it T j = 0 := by rw [hgt]; unfold toldX; rw [if_neg hneg, if_neg hkc]
          have HST := Lib.hid (hst.trans hs)
          rw [hx] at d2
          clear hst hs hgt hmk hkc hlen hneg hx
          go_wp2_with fail
          go_roundw
          case rel => exact ⟨j + 1, I, O, by omega, by go_num, by rw [HST.out]; exact HI.out, by have := HLI.out; omega, HT.out⟩
          case measure => simp [intOf]; omega
    · obtain rfl : j = m := by omega
      have hI2 : I = O ++ K := by have := HI.out; rwa [HF.out] at this
      have HI2 := Lib.hid hI2
      obtain ⟨p8, cap8, rfl, _⟩ := slI_shape (ownI_slI HT.out.fu)
      obtain ⟨p9, cap9, rfl, _⟩ := slI_shape (ownI_slI HT.out.fv)
      have S5 := Lib.hid (S4.out.keep HT.out.b)
      obtain ⟨x0, x1, _, _, xl⟩ := cells2 S5.out.m
      have HLO := Lib.hid (show O.length + K.length ≤ 1000 by rw [← List.length_append, ← hI2]; have := HLI.out; have := HM2.out; omega)
      clear hI2 HI
      go_wp2_with (
        at_builtin
        refine wpList_append_ints wr rfl (.tmp 84) (.tmp 86) rfl w4.heap.size _ _ rfl HT.out.fv _ K rfl S5.out.s (by have := HLO.out; omega) HT.out.b.size ?_
        intro v6 w6 ho6 hg6
        have T6 := Lib.hid (HT.out.right ho6 hg6)
        clear ho6 hg6)
      refine (ints_is _ _ I (O ++ K) true _ (ownI_slI T6.out.fu) (ownI_slI T6.out.fv) (by have := HLI.out; have := HM2.out; omega) (by rw [HI2.out]; simp)).mono ?_
      rintro e w7 ⟨rfl, g7⟩
      go_wp2_with fail
      go_ret
      exact ⟨rfl, belowT (belowT B4.out T6.out.b) g7⟩
theorem ringOrder_walk (c : Int) (v : Value) (l : List Int) (vn : Value) (ns : List Int) (w : World) (h : SlI w v l) (hn : SlI w vn ns) :
    Calls Try.prog 4 #[.agg #[.int .i64 c, v], vn] w fun e w' => e = .returned (.bool true) ∧ Below w.heap.size w w' := by
  have hs := h
  have hns := hn
  obtain ⟨p, cap, rfl, _⟩ := slI_shape h
  obtain ⟨q, ncap, rfl, _⟩ := slI_shape hn
  cases hm : mayB c l with
  | false => exact ringOrder_off c p cap _ l q ncap _ w rfl (.inl hm)
  | true =>
    by_cases hl : 100 < ns.length
    · exact ringOrder_off c p cap _ l q ncap _ w rfl (.inr ⟨hm, hl⟩)
    · exact ringOrder_on c p cap _ l q ncap _ ns w hs hns rfl hm rfl (by omega)
end Go.Proofs.Ytmcnpefnebehfaa
