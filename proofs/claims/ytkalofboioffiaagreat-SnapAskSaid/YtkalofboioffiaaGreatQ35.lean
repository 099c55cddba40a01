import Derived.Test.YtkalofboioffiaaGreatQ34
namespace Go.Proofs.YtkalofboioffiaaGreat
open Go.RowKit
set_option maxRecDepth 200000
set_option maxHeartbeats 64000000
theorem ydx (n : Int) (w : World) : Calls Tryz.prog 101 #[.int .i64 n] w fun e w' => e = .returned (.bool (zhy n)) ∧ Below w.heap.size w w' := by
 by_cases h0 : 0 < n
 ·
  have t0 : decide (0 < n) = true := decide_eq_true h0
  by_cases h1 : n ≤ 8
  ·
   have t1 : decide (n ≤ 8) = true := decide_eq_true h1
   rw [show zhy n = true from decide_eq_true ⟨by omega, h1⟩]
   clear h0 h1
   go_enter Tryz.func101, Tryz.ntmps101
   go_wp2_with fail
   go_ret
   exact ⟨rfl, Below.refl _ _⟩
  ·
   have t1 : decide (n ≤ 8) = false := decide_eq_false h1
   rw [show zhy n = false from decide_eq_false (fun h => h1 h.2)]
   clear h0 h1
   go_enter Tryz.func101, Tryz.ntmps101
   go_wp2_with fail
   go_ret
   exact ⟨rfl, Below.refl _ _⟩
 ·
  have t0 : decide (0 < n) = false := decide_eq_false h0
  rw [show zhy n = false from decide_eq_false (fun h => h0 (by omega))]
  clear h0
  go_enter Tryz.func101, Tryz.ntmps101
  go_wp2_with fail
  go_ret
  exact ⟨rfl, Below.refl _ _⟩
theorem yob (s : SlV) (out : UInt64) {j : Nat} (hj : j < 64) (w : World) : Calls Tryz.prog 196 #[.agg (vo ⟨s, out⟩), .int .i64 (j : Int)] w fun e w' => e = .returned (.bool (hasB out j)) ∧ Below w.heap.size w w' := by
 obtain ⟨W0, hW0⟩ : ∃ W0, W0 = w.alloc (.cells (vo ⟨s, out⟩) 29) := ⟨_, rfl⟩
 have HB : Hid (Below w.heap.size w W0) := by rw [hW0]; exact below1
 have hM0 : W0.heap[w.heap.size]? = some (.cells (vo ⟨s, out⟩) 29 (0, 0)) := by rw [hW0]; exact heap_alloc_last w _
 have HW := Lib.hid hW0
 have zo := (zb5 hM0).2.1
 dsimp only at zo
 have HS := Lib.hid (zv9 (j : Int))
 obtain ⟨B, hB⟩ : ∃ B, B = (bitN (j : Int) : Int) := ⟨_, rfl⟩
 obtain ⟨M, hM⟩ : ∃ M, M = (out.toNat : Int) := ⟨_, rfl⟩
 obtain ⟨x, hx⟩ : ∃ x, x = ((out.toNat &&& 2 ^ j : Nat) : Int) := ⟨_, rfl⟩
 obtain ⟨r, hr⟩ : ∃ r, r = hasB out j := ⟨_, rfl⟩
 have a1 : bits .and .u64 M B = x := by rw [hM, hB, hx]; exact z8w out hj
 have a2 : (x != 0) = r := by rw [hx, hr]; exact z8x out j
 rw [← hB] at HS
 rw [← hM] at zo
 rw [← hr]
 clear hW0 hM0 hB hM hx hr
 go_enter Tryz.func196, Tryz.ntmps196
 go_upto_region 1 with fail
 rw [← HW.out]
 have La := fun q : Wd W0.drew => zay zo q
 refine zan [3] (by kernel_rfl) (by kernel_rfl) (by kernel_rfl) ?_
 repeat (refine zae rfl rfl _ zaf ?_; (first | go_big_quiet_step (fail) | quiet_step (fail)); refine wpQuiet_nil ?_)
 refine zau rfl rfl rfl zpo #[.int .i64 (j : Int)] rfl ?_
 refine (HS.out _).mono ?_
 rintro e u ⟨rfl, g⟩
 refine ⟨_, rfl, g, ?_⟩
 simp only [Act.put, List.setIfInBounds_toArray, List.set_cons_zero, List.set_cons_succ]
 have G := Lib.hid (zac HB.out (zac (zak (Below.refl _ _) 1) g))
 clear g La
 repeat (refine zae rfl rfl _ zaf ?_; (first | go_big_quiet_step (fail) | quiet_step (fail)); refine wpQuiet_nil ?_)
 refine zbd ?_
 go_wp2_with fail
 go_ret
 exact ⟨rfl, G.out⟩
open Go.RowKit
section
variable {w W W' : World} {T : Nat} {s : SlV} {v : Vt}
structure Vw (w W : World) (T : Nat) (s : SlV) (v : Vt) : Prop where
 box : W.heap[T]? = some (.cells (vo ⟨s, v.out⟩) 29 (0, 0))
 s : SlE Elt W (sv s) v.l
 g : Below w.heap.size w W
theorem Vw.keep (h : Vw w W T s v) (g : Below W.heap.size W W') : Vw w W' T s v := ⟨zab g h.box, zad g h.s, zac h.g g⟩
theorem Vw.z1 (h : Vw w W T s v) : ldA W (.pointer (some ⟨T, 0, none⟩)) 2 = some (vo ⟨s, v.out⟩) := (zb5 h.box).2.2.1
theorem Vw.z0 (h : Vw w W T s v) : W.cell? ⟨T, 0, none⟩ = some (sv s) := (zb5 h.box).1
theorem Vw.zo (h : Vw w W T s v) : W.cell? ⟨T, 1, none⟩ = some (.int .u64 (v.out.toNat : Int)) := (zb5 h.box).2.1
theorem yq7 (h : SlE Elt w (sv s) v.l) : Vw w (w.alloc (.cells (vo ⟨s, v.out⟩) 29)) w.heap.size s v := ⟨heap_alloc_last w _, zad below1 h, below1⟩
end
theorem ybj {v : Vt} {n : Nat} (hl : v.l.length = n) (h1 : 1 ≤ n) (h8 : n ≤ 8) (h : ∀ q, q < n → okAt v q = true) : mayV v = decide (clrU v.out.toNat n = 0) := by
 rw [Bool.eq_iff_iff, decide_eq_true_iff, zcu, yfk, hl]
 constructor
 ·
  rintro ⟨_, _, h3⟩ i hi
  by_cases h64 : i < 64
  ·
   have := (zdo.1 (h3 i h64)).1
   rw [hl] at this
   cases e : v.out.toNat.testBit i
   ·
    rfl
   ·
    have := this e; omega
  ·
   exact Nat.testBit_lt_two_pow (Nat.lt_of_lt_of_le v.out.toNat_lt (Nat.pow_le_pow_right (by omega) (by omega)))
 ·
  intro h3
  refine ⟨h1, h8, fun i hi => ?_⟩
  by_cases hin : i < n
  ·
   exact h i hin
  ·
   refine zdo.2 ⟨fun e => ?_, fun e => by omega⟩
   have e' : v.out.toNat.testBit i = true := e
   rw [h3 i (by omega)] at e'
   cases e'
theorem ydz (p : Option Addr) (n cp : Nat) (v : Vt) (w : World) (h : SlE Elt w (.slice p n cp) v.l) (hl : v.l.length = n) :
  Calls Tryz.prog 175 #[.agg (vo ⟨⟨p, n, cp⟩, v.out⟩)] w fun e w' => e = .returned (.bool (mayV v)) ∧ Below w.heap.size w w' := by
 obtain ⟨W0, hW0⟩ : ∃ W0, W0 = w.alloc (.cells (vo ⟨⟨p, n, cp⟩, v.out⟩) 29) := ⟨_, rfl⟩
 have A : Hid (Vw w W0 w.heap.size ⟨p, n, cp⟩ v) := by rw [hW0]; exact yq7 h
 have HW := Lib.hid hW0
 have HL := Lib.hid hl
 have HF := Lib.hid (ydx (n : Int) W0)
 have HO : Hid (∀ (s : SlV) (j : Nat) (hj : j < 64) W, Calls Tryz.prog 196 #[.agg (vo ⟨s, v.out⟩), .int .i64 (j : Int)] W fun e w' => e = .returned (.bool (hasB v.out j)) ∧ Below W.heap.size W w') := fun s j hj W => yob s v.out hj W
 obtain ⟨f, hf⟩ : ∃ f, f = zhy (n : Int) := ⟨_, rfl⟩
 rw [← hf] at HF
 obtain ⟨r, hr⟩ : ∃ r, r = mayV v := ⟨_, rfl⟩
 rw [← hr]
 have HR := Lib.hid hr
 have z0 := A.out.z0
 rw [za7] at z0
 clear hW0 h hl hr
 cases f
 ·
  have hR : Hid (r = false) := by
   show r = false
   rw [HR.out, ← Bool.not_eq_true]
   intro e
   have h1 := (zcu.1 e).1
   have h2 := (zcu.1 e).2.1
   rw [HL.out] at h1 h2
   exact of_decide_eq_false hf.symm (by omega)
  clear hf
  go_enter Tryz.func175, Tryz.ntmps175
  go_upto_region 1 with fail
  rw [← HW.out]
  go_wp2_with fail
  refine HF.out.mono ?_
  rintro e w1 ⟨rfl, g⟩
  go_wp2_with fail
  go_ret
  exact ⟨by rw [hR.out]; first | done | rfl, zac A.out.g g⟩
 ·
  have hf' : 1 ≤ (n : Int) ∧ (n : Int) ≤ 8 := of_decide_eq_true hf.symm
  have H1 : Hid (1 ≤ n ∧ n ≤ 8) := by show _ ∧ _; omega
  clear hf hf'
  obtain ⟨M, hM⟩ : ∃ M, M = (v.out.toNat : Int) := ⟨_, rfl⟩
  have zo := A.out.zo
  have HMz : Hid (M = (clrU v.out.toNat 0 : Int)) := by show _ = _; rw [hM, yfl]
  have HMo := Lib.hid hM
  rw [← hM] at zo
  clear hM
  go_enter Tryz.func175, Tryz.ntmps175
  go_upto_region 1 with fail
  rw [← HW.out]
  go_wp2_with fail
  refine HF.out.mono ?_
  rintro e w1 ⟨rfl, g⟩
  replace A := Lib.hid (A.out.keep g)
  clear g z0 zo HF
  have zo := A.out.zo
  rw [← HMo.out] at zo
  have z0 := A.out.z0
  rw [za7] at z0
  go_wp2_with fail
  clear z0 zo
  go_loopw [3, 17] (fun m i wr => ∃ j : Nat, j ≤ n ∧ i = .int .i64 (j : Int) ∧ m = .int .u64 (clrU v.out.toNat j : Int) ∧ (∀ q, q < j → okAt v q = true) ∧ Vw w wr w.heap.size ⟨p, n, cp⟩ v) (fun _ i _ => n - (intOf i).toNat)
  case atStart => exact ⟨0, Nat.zero_le _, rfl, by rw [HMz.out], fun q hq => absurd hq (Nat.not_lt_zero _), A.out⟩
  case round =>
   obtain ⟨j, hj, rfl, rfl, hx, hA⟩ := hrel
   have HX := Lib.hid hx
   replace A := Lib.hid hA
   clear hx hA
   by_cases hlt : j < n
   ·
    have i0 : (0 : Int) ≤ (j : Int) := by omega
    have i1 : (j : Int) < (n : Int) := by omega
    have u1 : (j : Int) + 1 < 10000 := by have := H1.out; omega
    have H64 : Hid (j < 64) := by have := H1.out; show j < 64; omega
    have HLT := Lib.hid hlt
    obtain ⟨b1, o1, rfl, _, x1⟩ := zlh A.out.s (by rw [HL.out]; omega)
    have y1 := zqa x1 (i := j) (by rw [HL.out]; exact hlt)
    have hjl : j < v.l.length := by rw [HL.out]; exact hlt
    obtain ⟨b, hb⟩ : ∃ b, b = hasB v.out j := ⟨_, rfl⟩
    have hk : okAt v j = (if b = true ∨ (lat v.l j).has = false then decide (lat v.l j = zlt) else true) := by
     unfold okAt
     rw [if_neg (fun e => e.2 hjl), ← hb]
     by_cases e : b = true ∨ (lat v.l j).has = false
     ·
      rw [if_pos ⟨hjl, e⟩, if_pos e]
     ·
      rw [if_neg (fun e2 => e e2.2), if_neg e]
    have HC : Hid (∀ s W, Calls Tryz.prog 196 #[.agg (vo ⟨s, v.out⟩), .int .i64 (j : Int)] W fun e w' => e = .returned (.bool b) ∧ Below W.heap.size W w') := fun s W => by rw [hb]; exact HO.out s j H64.out W
    have HNo : Hid (okAt v j = false → r = false) := fun e => by
     rw [HR.out, ← Bool.not_eq_true]
     intro e2
     rw [(zcu.1 e2).2.2 j H64.out] at e
     cases e
    obtain ⟨c1, hc1⟩ : ∃ c, c = clrU v.out.toNat j := ⟨_, rfl⟩
    obtain ⟨c2, hc2⟩ : ∃ c, c = clrU v.out.toNat (j + 1) := ⟨_, rfl⟩
    obtain ⟨B, hB⟩ : ∃ B, B = (bitN (j : Int) : Int) := ⟨_, rfl⟩
    have a1 : bits .andNot .u64 (c1 : Int) B = (c2 : Int) := by rw [hc1, hc2, hB]; exact yfj v.out.toNat_lt H64.out
    have HSb := Lib.hid (fun W => zv9 (j : Int) W)
    rw [← hB] at HSb
    rw [← hc1]
    have HC2 := Lib.hid hc2
    generalize lat v.l j = x at *
    obtain ⟨hs, hhs⟩ : ∃ hs, hs = x.has := ⟨_, rfl⟩
    rw [← hhs] at hk
    have HK := Lib.hid hk
    have HHs := Lib.hid hhs
    clear x1 hk hjl hb hlt hc1 hc2 hB hhs
    go_upto_region 7 with fail
    obtain ⟨w2, hw2⟩ : ∃ w2, w2 = wr.alloc (.cells (lt x) 115) := ⟨_, rfl⟩
    rw [← hw2]
    have hx2 : w2.heap[wr.heap.size]? = some (.cells (lt x) 115 (0, 0)) := by rw [hw2]; exact heap_alloc_last wr _
    have X2 := Lib.hid hx2
    replace A := Lib.hid (A.out.keep (W' := w2) (by rw [hw2]; exact below1))
    have z1 := A.out.z1
    obtain ⟨q0, q1, q2, q3, q4⟩ := zgg hx2
    rw [← HHs.out] at q0
    clear hw2 hx2 y1
    by_cases hz : x = zlt
    ·
     have t1 : decide (x = zlt) = true := decide_eq_true hz
     have HT : Hid (okAt v j = true) := by show _ = _; rw [HK.out, decide_eq_true hz]; split <;> rfl
     clear hz
     cases hs
     ·
      go_wp2_with fail
      refine (HSb.out _).mono ?_
      rintro e w4 ⟨rfl, g⟩
      replace A := Lib.hid (A.out.keep g)
      clear g
      go_wp2_with fail
      go_roundw
      case rel => exact ⟨j + 1, HLT.out, by go_num, by rw [HC2.out], (fun q hq => by
       rcases Nat.lt_succ_iff_lt_or_eq.1 hq with h | rfl
       ·
        exact HX.out q h
       ·
        exact HT.out), A.out⟩
      case measure => simp [intOf]; have := HLT.out; omega
     ·
      cases b
      ·
       go_wp2_with fail
       refine (HC.out _ _).mono ?_
       rintro e w3 ⟨rfl, g⟩
       replace A := Lib.hid (A.out.keep g)
       obtain ⟨q0, q1, q2, q3, q4⟩ := zgg (zab g X2.out)
       clear g z1
       go_wp2_with fail
       refine (HSb.out _).mono ?_
       rintro e w4 ⟨rfl, g⟩
       replace A := Lib.hid (A.out.keep g)
       clear g
       go_wp2_with fail
       go_roundw
       case rel => exact ⟨j + 1, HLT.out, by go_num, by rw [HC2.out], (fun q hq => by
        rcases Nat.lt_succ_iff_lt_or_eq.1 hq with h | rfl
        ·
         exact HX.out q h
        ·
         exact HT.out), A.out⟩
       case measure => simp [intOf]; have := HLT.out; omega
      ·
       go_wp2_with fail
       refine (HC.out _ _).mono ?_
       rintro e w3 ⟨rfl, g⟩
       replace A := Lib.hid (A.out.keep g)
       obtain ⟨q0, q1, q2, q3, q4⟩ := zgg (zab g X2.out)
       clear g z1
       go_wp2_with fail
       refine (HSb.out _).mono ?_
       rintro e w4 ⟨rfl, g⟩
       replace A := Lib.hid (A.out.keep g)
       clear g
       go_wp2_with fail
       go_roundw
       case rel => exact ⟨j + 1, HLT.out, by go_num, by rw [HC2.out], (fun q hq => by
        rcases Nat.lt_succ_iff_lt_or_eq.1 hq with h | rfl
        ·
         exact HX.out q h
        ·
         exact HT.out), A.out⟩
       case measure => simp [intOf]; have := HLT.out; omega
    ·
     have t1 : decide (x = zlt) = false := decide_eq_false hz
     cases hs
     ·
      have HF : Hid (r = false) := HNo.out (by rw [HK.out, if_pos (.inr rfl), t1])
      clear hz
      go_wp2_with fail
      go_ret
      exact ⟨by rw [HF.out]; first | done | rfl, A.out.g⟩
     ·
      cases b
      ·
       have HT : Hid (okAt v j = true) := by show _ = _; rw [HK.out, if_neg (by simp)]
       clear hz
       go_wp2_with fail
       refine (HC.out _ _).mono ?_
       rintro e w3 ⟨rfl, g⟩
       replace A := Lib.hid (A.out.keep g)
       obtain ⟨q0, q1, q2, q3, q4⟩ := zgg (zab g X2.out)
       clear g z1
       go_wp2_with fail
       refine (HSb.out _).mono ?_
       rintro e w4 ⟨rfl, g⟩
       replace A := Lib.hid (A.out.keep g)
       clear g
       go_wp2_with fail
       go_roundw
       case rel => exact ⟨j + 1, HLT.out, by go_num, by rw [HC2.out], (fun q hq => by
        rcases Nat.lt_succ_iff_lt_or_eq.1 hq with h | rfl
        ·
         exact HX.out q h
        ·
         exact HT.out), A.out⟩
       case measure => simp [intOf]; have := HLT.out; omega
      ·
       have HF : Hid (r = false) := HNo.out (by rw [HK.out, if_pos (.inl rfl), t1])
       clear hz
       go_wp2_with fail
       refine (HC.out _ _).mono ?_
       rintro e w3 ⟨rfl, g⟩
       replace A := Lib.hid (A.out.keep g)
       obtain ⟨q0, q1, q2, q3, q4⟩ := zgg (zab g X2.out)
       clear g z1
       go_wp2_with fail
       go_ret
       exact ⟨by rw [HF.out]; first | done | rfl, A.out.g⟩
   ·
    obtain rfl : j = n := by omega
    have hR : Hid (r = decide (clrU v.out.toNat j = 0)) := by show _ = _; rw [HR.out]; exact ybj HL.out H1.out.1 H1.out.2 HX.out
    obtain ⟨c, hc⟩ : ∃ c, c = clrU v.out.toNat j := ⟨_, rfl⟩
    rw [← hc] at hR ⊢
    have t1 : ((c : Int) == 0) = decide (c = 0) := by rw [Bool.eq_iff_iff, beq_iff_eq, decide_eq_true_iff]; omega
    have t2 : (c == 0) = decide (c = 0) := by rw [Bool.eq_iff_iff, beq_iff_eq, decide_eq_true_iff]
    have HRR := Lib.hid hR.out
    clear hlt hc hR
    go_wp2_with fail
    go_ret
    exact ⟨by rw [HRR.out]; first | done | rfl | simp, A.out.g⟩
theorem ydy (s : SlV) (v : Vt) (w : World) (h : SlE Elt w (sv s) v.l) :
  Calls Tryz.prog 175 #[.agg (vo ⟨s, v.out⟩)] w fun e w' => e = .returned (.bool (mayV v)) ∧ Below w.heap.size w w' := by
 have hl := znd h
 obtain ⟨p, n, cp⟩ := s
 dsimp only at hl
 exact ydz p n cp v w h hl
theorem yck (p q r : Option Addr) (n cp m cq k cr : Nat) (l : List Nd) (v : Vt) (bal : List UInt64) (w : World) (h : SlE Ene w (.slice p n cp) l) (h1 : SlE Elt w (.slice q m cq) v.l) (h2 : SlE Enum w (.slice r k cr) bal) (hv : v.l.length = m) (hb : bal.length = k) :
  Calls Tryz.prog 149 #[.agg (tr ⟨⟨p, n, cp⟩⟩), .agg (vo ⟨⟨q, m, cq⟩, v.out⟩), .slice r k cr] w fun e w' => e = .returned (.bool (fitB l v bal)) ∧ Below w.heap.size w w' := by
 have HA := Lib.hid (fun W (g : Below w.heap.size w W) => ze3 ⟨p, n, cp⟩ l W (zad g h))
 have HV := Lib.hid (fun W (g : Below w.heap.size w W) => ydy ⟨q, m, cq⟩ v W (zad g h1))
 have HC := Lib.hid (fun W (g : Below w.heap.size w W) => zow (.slice r k cr) bal W (zad g h2))
 obtain ⟨a, ha⟩ : ∃ a, a = decide (MayT l) := ⟨_, rfl⟩
 obtain ⟨b, hb'⟩ : ∃ b, b = mayV v := ⟨_, rfl⟩
 obtain ⟨c, hc⟩ : ∃ c, c = mayB bal := ⟨_, rfl⟩
 obtain ⟨x, hx⟩ : ∃ x, x = ((m : Int) == (k : Int)) := ⟨_, rfl⟩
 obtain ⟨z, hz⟩ : ∃ z, z = fitB l v bal := ⟨_, rfl⟩
 have HZ : Hid (z = (a && (b && (c && x)))) := by
  show z = _
  rw [hz, ha, hb', hc, hx]
  unfold fitB
  have : decide (v.l.length = bal.length) = ((m : Int) == (k : Int)) := by rw [Bool.eq_iff_iff, decide_eq_true_iff, beq_iff_eq, hv, hb]; omega
  rw [this]
 rw [← hz]
 rw [← ha] at HA
 rw [← hb'] at HV
 rw [← hc] at HC
 have tx : ((m : Int) == (k : Int)) = x := hx.symm
 obtain ⟨W0, hW0⟩ : ∃ W0, W0 = (w.alloc (.cells (tr ⟨⟨p, n, cp⟩⟩) 24)).alloc (.cells (vo ⟨⟨q, m, cq⟩, v.out⟩) 29) := ⟨_, rfl⟩
 obtain ⟨hB, k0, k1, hz0⟩ := zdb w _ _ _ _ W0 hW0
 have HB := Lib.hid hB
 have HW := Lib.hid hW0
 have K0 := Lib.hid k0
 have K1 := Lib.hid k1
 clear hW0 h h1 h2 hv hb hB k0 k1 hz0 ha hb' hc hx hz
 go_enter Tryz.func149, Tryz.ntmps149
 have z1 := (zaw K0.out).2.1
 go_wp2_with fail
 rw [← HW.out]
 go_wp2_with fail
 refine (HA.out W0 HB.out).mono ?_
 rintro e w1 ⟨rfl, g1⟩
 have G1 := Lib.hid (zac HB.out g1)
 have N1 := Lib.hid (zab g1 K1.out)
 clear g1 z1
 have y1 := (zb5 N1.out).2.2.1
 cases a
 ·
  have hX : Hid (z = false) := HZ.out
  go_wp2_with fail
  go_ret
  exact ⟨by rw [hX.out]; first | done | rfl, G1.out⟩
 ·
  go_wp2_with fail
  refine (HV.out w1 G1.out).mono ?_
  rintro e w2 ⟨rfl, g2⟩
  have G2 := Lib.hid (zac G1.out g2)
  have N2 := Lib.hid (zab g2 N1.out)
  clear g2 y1
  cases b
  ·
   have hX : Hid (z = false) := HZ.out
   go_wp2_with fail
   go_ret
   exact ⟨by rw [hX.out]; first | done | rfl, G2.out⟩
  ·
   go_wp2_with fail
   refine (HC.out w2 G2.out).mono ?_
   rintro e w3 ⟨rfl, g3⟩
   have G3 := Lib.hid (zac G2.out g3)
   have N3 := Lib.hid (zab g3 N2.out)
   clear g3
   have y0 := (zb5 N3.out).1
   dsimp only at y0
   rw [za7] at y0
   cases c
   ·
    have hX : Hid (z = false) := HZ.out
    go_wp2_with fail
    go_ret
    exact ⟨by rw [hX.out]; first | done | rfl, G3.out⟩
   ·
    have hX : Hid (z = x) := HZ.out
    go_wp2_with fail
    go_ret
    exact ⟨by rw [hX.out]; first | done | rfl, G3.out⟩
theorem ycj (s t : SlV) (u : Value) (l : List Nd) (v : Vt) (bal : List UInt64) (w : World) (h : SlE Ene w (sv s) l) (h1 : SlE Elt w (sv t) v.l) (h2 : SlE Enum w u bal) :
  Calls Tryz.prog 149 #[.agg (tr ⟨s⟩), .agg (vo ⟨t, v.out⟩), u] w fun e w' => e = .returned (.bool (fitB l v bal)) ∧ Below w.heap.size w w' := by
 have hv := znd h1
 obtain ⟨p, n, cp⟩ := s
 obtain ⟨q, m, cq⟩ := t
 dsimp only at hv
 obtain ⟨r, cr, rfl, _⟩ := zar h2
 exact yck p q r n cp m cq _ cr l v bal w h h1 h2 hv rfl
theorem zit {fn : Func} {t u v : Tmp} (h : fn.results = #[.tmp t, .tmp u, .tmp v]) (tmps : Array Value) (P : Program) (w : World) :
  (results fn tmps).run P w = .ok (.tuple #[tmps.getD t undef, tmps.getD u undef, tmps.getD v undef]) w := by
 simp [results, h]
def yo2 (a b : List UInt64) (ok : Bool) (w : World) (e : Ending) (w' : World) : Prop := ∃ u v, e = .returned (.tuple #[u, v, .bool ok]) ∧ SlE Enum w' u a ∧ SlE Enum w' v b ∧ Below w.heap.size w w'
theorem yq6 {w W : World} {s : SlV} {v : Vt} (g : Below w.heap.size w W) (h : SlE Elt W (sv s) v.l) : Vw w (W.alloc (.cells (vo ⟨s, v.out⟩) 29)) W.heap.size s v := ⟨heap_alloc_last W _, zad below1 h, zac g below1⟩
theorem yja (s t t' : SlV) (u : Value) (l : List Nd) (v o : Vt) (bal : List UInt64) (w W : World) (hW : W = ((w.alloc (.cells (vo ⟨t', o.out⟩) 29)).alloc (.cells (vo ⟨t, v.out⟩) 29)).alloc (.cells #[u] 25)) (h : SlE Ene w (sv s) l) (h1 : SlE Elt w (sv t) v.l) (h1' : SlE Elt w (sv t') o.l) (h2 : SlE Enum w u bal) (hf : fitB l v bal = true) (hf' : fitB l o bal = true) :
  Calls Tryz.prog 150 #[.agg (tr ⟨s⟩), .func (.func 176) #[] #[.pointer (some ⟨w.heap.size + 1, 0, none⟩), .pointer (some ⟨w.heap.size, 0, none⟩), .pointer (some ⟨w.heap.size + 1 + 1, 0, none⟩)]] W fun e w' => ∃ x, e = .returned x ∧ OwnE Enum w' W.heap.size x (zc9 (zv8 l v o bal) l.length) ∧ Below W.heap.size W w' := by
 obtain ⟨hm, hv, hbal, e1⟩ := zgm.1 hf
 obtain ⟨_, _, _, e2⟩ := zgm.1 hf'
 have hl := zcn h
 have hvl := znd h1
 have hol := znd h1'
 obtain ⟨b1, b2, _⟩ := zer.1 hbal
 obtain ⟨g, k0, k1, k2, hz⟩ := zft w _ _ _ _ _ _ W hW
 obtain ⟨p, n, cp⟩ := s
 obtain ⟨q, m, cq⟩ := t
 obtain ⟨q', m', cq'⟩ := t'
 dsimp only at hl hvl hol
 obtain ⟨r, cr, rfl, _⟩ := zar h2
 obtain rfl : m' = m := by omega
 have hbl : bal.length = m' := by omega
 rw [hbl] at h2 k2 hW
 obtain ⟨p1, o1, rfl, q1, x1⟩ := zlh h1 (by have := (zcu.1 hv).1; omega)
 obtain ⟨p2, o2, rfl, q2, x2⟩ := zlh h1' (by have := (zcu.1 hv).1; omega)
 obtain ⟨p3, o3, rfl, q3, x3⟩ := zgi h2 (by have := (zcu.1 hv).1; omega)
 have hs := g.size
 rw [hl]
 exact ye2 (w.heap.size + 1) w.heap.size (w.heap.size + 1 + 1) n cp p1 o1 cq p2 o2 cq' p3 o3 cr m' p l v o bal W (zad g h) hm hl (by have := (zcu.1 hv).2.1; omega) hvl hol hbl (yku hbal) (by omega) (by omega) (by omega) k1 k0 k2 (zfu g x1) (zfu g x2) (zfu g x3)
theorem z9s (p q q' r : Option Addr) (n cp m cq m' cq' k cr : Nat) (l : List Nd) (was is : Vt) (bal : List UInt64) (w : World) (h : SlE Ene w (.slice p n cp) l) (h1 : SlE Elt w (.slice q m cq) was.l) (h1' : SlE Elt w (.slice q' m' cq') is.l) (h2 : SlE Enum w (.slice r k cr) bal) :
  Calls Tryz.prog 118 #[.agg (tr ⟨⟨p, n, cp⟩⟩), .agg (vo ⟨⟨q, m, cq⟩, was.out⟩), .agg (vo ⟨⟨q', m', cq'⟩, is.out⟩), .slice r k cr] w (yo2 (zr8 l was is bal) (zju l was is bal) (ofB l was is bal) w) := by
 have HF1 := Lib.hid (fun W (g : Below w.heap.size w W) => ycj ⟨p, n, cp⟩ ⟨q, m, cq⟩ (.slice r k cr) l was bal W (zad g h) (zad g h1) (zad g h2))
 have HF2 := Lib.hid (fun W (g : Below w.heap.size w W) => ycj ⟨p, n, cp⟩ ⟨q', m', cq'⟩ (.slice r k cr) l is bal W (zad g h) (zad g h1') (zad g h2))
 have HS1 : Hid (fitB l was bal = true → fitB l is bal = true → ∀ V, Below w.heap.size w V → ∀ W, W = ((V.alloc (.cells (vo ⟨⟨q, m, cq⟩, was.out⟩) 29)).alloc (.cells (vo ⟨⟨q', m', cq'⟩, is.out⟩) 29)).alloc (.cells #[.slice r k cr] 25) →
   Calls Tryz.prog 150 #[.agg (tr ⟨⟨p, n, cp⟩⟩), .func (.func 176) #[] #[.pointer (some ⟨V.heap.size + 1, 0, none⟩), .pointer (some ⟨V.heap.size, 0, none⟩), .pointer (some ⟨V.heap.size + 1 + 1, 0, none⟩)]] W (fun e w' => ∃ u, e = .returned u ∧ OwnE Enum w' W.heap.size u (zr8 l was is bal) ∧ Below W.heap.size W w')) := fun f1 f2 V g W hW => by
  rw [zyt (yb4.2 ⟨f1, f2⟩)]
  exact yja ⟨p, n, cp⟩ ⟨q', m', cq'⟩ ⟨q, m, cq⟩ (.slice r k cr) l is was bal V W hW (zad g h) (zad g h1') (zad g h1) (zad g h2) f2 f1
 have HS2 : Hid (fitB l was bal = true → fitB l is bal = true → ∀ V, Below w.heap.size w V → ∀ W, W = ((V.alloc (.cells (vo ⟨⟨q', m', cq'⟩, is.out⟩) 29)).alloc (.cells (vo ⟨⟨q, m, cq⟩, was.out⟩) 29)).alloc (.cells #[.slice r k cr] 25) →
   Calls Tryz.prog 150 #[.agg (tr ⟨⟨p, n, cp⟩⟩), .func (.func 176) #[] #[.pointer (some ⟨V.heap.size + 1, 0, none⟩), .pointer (some ⟨V.heap.size, 0, none⟩), .pointer (some ⟨V.heap.size + 1 + 1, 0, none⟩)]] W (fun e w' => ∃ u, e = .returned u ∧ OwnE Enum w' W.heap.size u (zju l was is bal) ∧ Below W.heap.size W w')) := fun f1 f2 V g W hW => by
  rw [z6k (yb4.2 ⟨f1, f2⟩)]
  exact yja ⟨p, n, cp⟩ ⟨q, m, cq⟩ ⟨q', m', cq'⟩ (.slice r k cr) l was is bal V W hW (zad g h) (zad g h1) (zad g h1') (zad g h2) f1 f2
 have HNo : Hid (ofB l was is bal = false → zr8 l was is bal = [] ∧ zju l was is bal = []) := fun e => ⟨z4c e, ybl e⟩
 obtain ⟨f1, hf1⟩ : ∃ f, f = fitB l was bal := ⟨_, rfl⟩
 obtain ⟨f2, hf2⟩ : ∃ f, f = fitB l is bal := ⟨_, rfl⟩
 have ho : ofB l was is bal = (f1 && f2) := by unfold ofB; rw [hf1, hf2]
 rw [ho] at HNo
 rw [ho]
 rw [← hf1] at HF1 HS1 HS2
 rw [← hf2] at HF2 HS1 HS2
 generalize zr8 l was is bal = P at *
 generalize zju l was is bal = M at *
 obtain ⟨W0, hW0⟩ : ∃ W0, W0 = ((w.alloc (.cells (tr ⟨⟨p, n, cp⟩⟩) 24)).alloc (.cells (vo ⟨⟨q, m, cq⟩, was.out⟩) 29)).alloc (.cells (vo ⟨⟨q', m', cq'⟩, is.out⟩) 29) := ⟨_, rfl⟩
 obtain ⟨hB, k0, k1, k2, hz0⟩ := zft w _ _ _ _ _ _ W0 hW0
 have HB := Lib.hid hB
 have HW := Lib.hid hW0
 have K0 := Lib.hid k0
 have K1 := Lib.hid k1
 have K2 := Lib.hid k2
 clear hW0 h h1 h1' h2 hB k0 k1 k2 hz0 hf1 hf2 ho
 have z1 := (zaw K0.out).2.1
 have y1 := (zb5 K1.out).2.2.1
 go_enter Tryz.func118, Tryz.ntmps118
 go_wp2_with fail
 rw [← HW.out]
 go_wp2_with fail
 refine (HF1.out W0 HB.out).mono ?_
 rintro e w1 ⟨rfl, g1⟩
 have G1 := Lib.hid (zac HB.out g1)
 have M0 := Lib.hid (zab g1 K0.out)
 have M1 := Lib.hid (zab g1 K1.out)
 have M2 := Lib.hid (zab g1 K2.out)
 clear g1 z1 y1
 have z1 := (zaw M0.out).2.1
 have y2 := (zb5 M2.out).2.2.1
 cases f1
 ·
  obtain ⟨rfl, rfl⟩ := HNo.out rfl
  go_wp2_with fail
  (try simp only [Exit.inBlock, Exit.then])
  refine bodyPost_ret (zit rfl _ _ _) rfl ?_
  exact ⟨_, _, rfl, zbr _ _ _ _, zbr _ _ _ _, G1.out⟩
 ·
  go_wp2_with fail
  refine (HF2.out w1 G1.out).mono ?_
  rintro e w2 ⟨rfl, g2⟩
  have G2 := Lib.hid (zac G1.out g2)
  have N0 := Lib.hid (zab g2 M0.out)
  have N1 := Lib.hid (zab g2 M1.out)
  have N2 := Lib.hid (zab g2 M2.out)
  clear g2 z1 y2
  cases f2
  ·
   obtain ⟨rfl, rfl⟩ := HNo.out rfl
   go_wp2_with fail
   (try simp only [Exit.inBlock, Exit.then])
   refine bodyPost_ret (zit rfl _ _ _) rfl ?_
   exact ⟨_, _, rfl, zbr _ _ _ _, zbr _ _ _ _, G2.out⟩
  ·
   have S1 := Lib.hid (HS1.out (by simp) (by simp))
   have S2 := Lib.hid (HS2.out (by simp) (by simp))
   clear HS1 HS2 HNo
   have L0 := fun x : Wd w2.drew => za8 (zaw N0.out).2.1 (by decide) x
   have L1 := fun x : Wd w2.drew => za8 (zb5 N1.out).2.2.1 (by decide) x
   have L2 := fun x : Wd w2.drew => za8 (zb5 N2.out).2.2.1 (by decide) x
   go_wp2_with fail
   refine zan [4, 5, 10, 11] (by kernel_rfl) (by kernel_rfl) (by kernel_rfl) ?_
   repeat (refine zae rfl rfl _ zaf ?_; (first | go_big_quiet_step (fail) | quiet_step (fail)); refine wpQuiet_nil ?_)
   refine zau rfl rfl rfl zhv #[.agg (vo ⟨⟨q, m, cq⟩, was.out⟩), .agg (vo ⟨⟨q', m', cq'⟩, is.out⟩), .slice r k cr] rfl ?_
   refine (zw7 _ _ _ _ _ _).mono ?_
   rintro e v1 ⟨rfl, hv1⟩
   have g1 : Below w2.drew.heap.size w2.drew v1 := (zft w2.drew _ _ _ _ _ _ v1 hv1).1
   have T1 : Hid (Below w2.heap.size w2 v1) := zac (zak (Below.refl _ _) 1) g1
   have HV := Lib.hid hv1
   refine ⟨_, rfl, g1, ?_⟩
   simp only [Act.put, List.setIfInBounds_toArray, List.set_cons_zero, List.set_cons_succ]
   clear g1 hv1
   refine zau rfl rfl rfl zk3 #[.agg (tr ⟨⟨p, n, cp⟩⟩), .func (.func 176) #[] #[.pointer (some ⟨w2.drew.heap.size + 1, 0, none⟩), .pointer (some ⟨w2.drew.heap.size, 0, none⟩), .pointer (some ⟨w2.drew.heap.size + 1 + 1, 0, none⟩)]] rfl ?_
   refine (S1.out _ (zac G2.out (zak (Below.refl _ _) 1)) v1 HV.out).mono ?_
   rintro e v2 ⟨u1, rfl, ho1, g⟩
   have T2 : Hid (Below w2.heap.size w2 v2) := zac T1.out g
   have O1 := Lib.hid (zat ho1)
   refine ⟨_, rfl, g, ?_⟩
   simp only [Act.put, List.setIfInBounds_toArray, List.set_cons_zero, List.set_cons_succ]
   clear g ho1 HV
   repeat (refine zae rfl rfl _ zaf ?_; (first | go_big_quiet_step (fail) | quiet_step (fail)); refine wpQuiet_nil ?_)
   refine zau rfl rfl rfl zhv #[.agg (vo ⟨⟨q', m', cq'⟩, is.out⟩), .agg (vo ⟨⟨q, m, cq⟩, was.out⟩), .slice r k cr] rfl ?_
   refine (zw7 _ _ _ _ _ _).mono ?_
   rintro e v3 ⟨rfl, hv3⟩
   have g3 : Below v2.heap.size v2 v3 := (zft v2 _ _ _ _ _ _ v3 hv3).1
   have T3 : Hid (Below w2.heap.size w2 v3) := zac T2.out g3
   have O2 := Lib.hid (zad g3 O1.out)
   have HV := Lib.hid hv3
   refine ⟨_, rfl, g3, ?_⟩
   simp only [Act.put, List.setIfInBounds_toArray, List.set_cons_zero, List.set_cons_succ]
   clear g3 hv3
   refine zau rfl rfl rfl zk3 #[.agg (tr ⟨⟨p, n, cp⟩⟩), .func (.func 176) #[] #[.pointer (some ⟨v2.heap.size + 1, 0, none⟩), .pointer (some ⟨v2.heap.size, 0, none⟩), .pointer (some ⟨v2.heap.size + 1 + 1, 0, none⟩)]] rfl ?_
   refine (S2.out _ (zac G2.out T2.out) v3 HV.out).mono ?_
   rintro e v4 ⟨u2, rfl, ho2, g⟩
   have T4 : Hid (Below w2.heap.size w2 v4) := zac T3.out g
   have O3 := Lib.hid (zat ho2)
   have O4 := Lib.hid (zad g O2.out)
   refine ⟨_, rfl, g, ?_⟩
   simp only [Act.put, List.setIfInBounds_toArray, List.set_cons_zero, List.set_cons_succ]
   clear g ho2
   repeat (refine zae rfl rfl _ zaf ?_; (first | go_big_quiet_step (fail) | quiet_step (fail)); refine wpQuiet_nil ?_)
   refine zbd ?_
   clear L0 L1 L2
   go_wp2_with fail
   (try simp only [Exit.inBlock, Exit.then])
   refine bodyPost_ret (zit rfl _ _ _) rfl ?_
   exact ⟨_, _, rfl, O4.out, O3.out, zac G2.out T4.out⟩
theorem ylc (s t t' : SlV) (u : Value) (l : List Nd) (was is : Vt) (bal : List UInt64) (w : World) (h : SlE Ene w (sv s) l) (h1 : SlE Elt w (sv t) was.l) (h1' : SlE Elt w (sv t') is.l) (h2 : SlE Enum w u bal) :
  Calls Tryz.prog 118 #[.agg (tr ⟨s⟩), .agg (vo ⟨t, was.out⟩), .agg (vo ⟨t', is.out⟩), u] w (yo2 (zr8 l was is bal) (zju l was is bal) (ofB l was is bal) w) := by
 obtain ⟨p, n, cp⟩ := s
 obtain ⟨q, m, cq⟩ := t
 obtain ⟨q', m', cq'⟩ := t'
 have k2 := h2
 obtain ⟨r, cr, rfl, _⟩ := zar h2
 exact z9s p q q' r n cp m cq m' cq' _ cr l was is bal w h h1 h1' k2
theorem ygv : ∀ n, n ≤ 8 → (madeCells (Value.agg (lt zlt)).cells (n * 34)).toList = zaq Elt (List.replicate n zlt) := by
 intro n hn
 have : n = 0 ∨ n = 1 ∨ n = 2 ∨ n = 3 ∨ n = 4 ∨ n = 5 ∨ n = 6 ∨ n = 7 ∨ n = 8 := by omega
 rcases this with rfl | rfl | rfl | rfl | rfl | rfl | rfl | rfl | rfl <;> (refine Eq.symm ?_; kernel_rfl)
end Go.Proofs.YtkalofboioffiaaGreat
