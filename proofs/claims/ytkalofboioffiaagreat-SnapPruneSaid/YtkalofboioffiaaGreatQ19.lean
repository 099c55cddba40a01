import Derived.Test.YtkalofboioffiaaGreatQ18
namespace Go.Proofs.YtkalofboioffiaaGreat
open Go.RowKit
set_option maxRecDepth 200000
set_option maxHeartbeats 64000000
section
open Go.Shelf
attribute [local go_sem] Oper.semAt_some
def ygl {l : List Nd} {k : Nat} (pre : List (Ln l k)) : Nat := (pre.map Subtype.val).getLastD 0
theorem zs9 {l : List Nd} {k : Nat} (pre : List (Ln l k)) (x : Ln l k) : ygl (pre ++ [x]) = x.1 := by unfold ygl; simp
theorem ydo (s : SlV) (l : List Nd) (i : Int) (q : UInt64) (w : World) (h : SlE Ene w (sv s) l) (hk : isT l i = false) :
  Calls Tryz.prog 81 #[.agg (tr ⟨s⟩), .int .i64 i, .int .u64 (q.toNat : Int)] w fun e w' => e = .returned (.int .i64 (-1)) ∧ Below w.heap.size w w' := by
 have HP := Lib.hid (fun W (g : Below w.heap.size w W) => zf3 s l i W (zad g h))
 rw [hk] at HP
 obtain ⟨W0, hW0⟩ : ∃ W0, W0 = ((w.alloc (.cells (tr ⟨s⟩) 24)).alloc (.cells #[.int .u64 (q.toNat : Int)] 27)).alloc (.cells #[.int .i64 0] 3) := ⟨_, rfl⟩
 obtain ⟨hB, h0, h1, h2, hz⟩ := zft w _ _ _ _ _ _ W0 hW0
 have HB := Lib.hid hB
 have H2 := Lib.hid h2
 have HW := Lib.hid hW0
 clear hW0 h hk hB h0 h1 h2 hz
 go_enter Tryz.func81, Tryz.ntmps81
 go_wp2_with fail
 rw [← HW.out]
 refine (HP.out W0 HB.out).mono ?_
 rintro e w1 ⟨rfl, g1⟩
 have G1 := Lib.hid (zac HB.out g1)
 have hc : w1.cell? ⟨w.heap.size + 1 + 1, 0, none⟩ = some (.int .i64 0) ∧ w1.frozen? ⟨w.heap.size + 1 + 1, 0, none⟩ = false := zaj (zab g1 H2.out)
 obtain ⟨z0, z1⟩ := hc
 clear g1
 go_wp2_with fail
 have hs := World.cell?_setCell_same' w1 ⟨w.heap.size + 1 + 1, 0, none⟩ (.int .i64 (-1)) (by rw [z0]; rfl)
 exact bodyPost_ret (v := .int .i64 (-1)) (by simp [results, Tryz.results81, go_sem, hs]) rfl ⟨rfl, G1.out.setCell (p := ⟨w.heap.size + 1 + 1, 0, none⟩) (by simp; omega) _⟩
theorem z79 (s : SlV) (l : List Nd) (k : Nat) (q : UInt64) (w : World) (h : SlE Ene w (sv s) l) (hm : MayT l) (hk : k < l.length) :
  Calls Tryz.prog 81 #[.agg (tr ⟨s⟩), .int .i64 (k : Int), .int .u64 (q.toNat : Int)] w fun e w' => e = .returned (.int .i64 (atT l k q.toNat)) ∧ Below w.heap.size w w' := by
 have HP := Lib.hid (fun W (g : Below w.heap.size w W) => zf3 s l k W (zad g h))
 rw [zhh hm hk] at HP
 have HL := Lib.hid (zcn h)
 obtain ⟨p, n, cp⟩ := s
 dsimp only at HL
 obtain ⟨b1, o1, rfl, q1, x1⟩ := zda h hm.pos
 obtain ⟨W0, hW0⟩ : ∃ W0, W0 = ((w.alloc (.cells (tr ⟨⟨some ⟨b1, o1, none⟩, n, cp⟩⟩) 24)).alloc (.cells #[.int .u64 (q.toNat : Int)] 27)).alloc (.cells #[.int .i64 0] 3) := ⟨_, rfl⟩
 obtain ⟨hB, h0, h1, h2, hz⟩ := zft w _ _ _ _ _ _ W0 hW0
 have HB := Lib.hid hB
 have H0 := Lib.hid h0
 have H1 := Lib.hid h1
 have H2 := Lib.hid h2
 have HZ := Lib.hid hz
 have HW := Lib.hid hW0
 have HX := Lib.hid x1
 have HQ := Lib.hid q1
 have HM := Lib.hid hm
 have HK := Lib.hid hk
 obtain ⟨r, hr⟩ : ∃ r, r = atT l k q.toNat := ⟨_, rfl⟩
 rw [← hr]
 have HR := Lib.hid hr
 clear hW0 h hk hB h0 h1 h2 hz hm x1 q1 hr
 refine callsIn_wide.1 (callsIn_of_wp_marks (n := 3) Tryz.func81 rfl trivial (wpIn_wide.2 ?_))
 simp only [Tryz.ntmps81, List.size_toArray, List.length_cons, List.length_nil, Nat.reduceAdd, Nat.reduceSub, Array.replicate_succ, Array.replicate_zero, List.push_toArray, List.append_toArray, List.nil_append, List.cons_append]
 go_wp2_with fail
 rw [← HW.out]
 refine (HP.out W0 HB.out).mono ?_
 rintro e w1 ⟨rfl, g1⟩
 have G1 := Lib.hid (zac HB.out g1)
 have G01 := Lib.hid g1
 have z1 := zag (zab g1 H0.out) (za9 _)
 clear g1
 go_wp2_with fail
 refine (zwj _ _ _).mono ?_
 rintro e w2 ⟨rfl, hw2⟩
 obtain ⟨hB2, hT2, hC2, hz2⟩ := zdb w1 _ _ _ _ w2 hw2
 have HB2 := Lib.hid hB2
 have HT2 := Lib.hid hT2
 have HC2 := Lib.hid hC2
 have HZ2 := Lib.hid hz2
 clear hw2 hB2 hT2 hC2 hz2 z1
 go_wp2_with fail
 refine (wpIn_wide (n := 3)).1 ?_
 have hs1 : w.heap.size + 3 ≤ w1.heap.size := by have := G01.out.size; have := HZ.out; omega
 have HS1 := Lib.hid hs1
 clear hs1
 refine wpIn_rangeFunc_ownF (w0 := w2) rfl (by omega) (gf := 95) (lb := #[.pointer (some ⟨w1.heap.size + 1, 0, none⟩), .pointer (some ⟨w1.heap.size, 0, none⟩)]) rfl trivial (zbe Tryz.func95 (by kernel_rfl) (by kernel_rfl))
  (zmz Fence.wide 2 trivial rfl (by omega) (w1.heap.size + 1) w1.heap.size b1 o1 n cp w2.heap.size l k w2 HM.out HL.out (by have := HL.out; have := HK.out; omega)
   (zaj HC2.out).1 HT2.out (zfu (zac G1.out HB2.out) HX.out) (by have := HZ2.out; omega) (by have := HZ2.out; omega) (by have := HQ.out; have := HS1.out; have := HZ2.out; omega) (Nat.le_refl _))
  belowK_t (belowK_b (Nat.le_refl _)) (Below.refl _ _) (fun _ => rfl)
  (fun pre W => (∀ y ∈ pre, q.toNat < sl l y.1) ∧ Below w2.heap.size w2 W)
  (fun c pre W => (((c = .ret ∧ ∃ (ys : List (Ln l k)) (x : Ln l k), pre = ys ++ [x] ∧ (∀ y ∈ ys, q.toNat < sl l y.1) ∧ sl l x.1 ≤ q.toNat) ∧ W.cell? ⟨w.heap.size + 1 + 1, 0, none⟩ = some (.int .i64 (ygl pre : Int))) ∧ Below w.heap.size w W))
  (z33 _ (Nat.le_refl _)) (fun c => z34 (w := w) (B := w2.heap.size) (fun pre : List (Ln l k) => c = .ret ∧ ∃ (ys : List (Ln l k)) (x : Ln l k), pre = ys ++ [x] ∧ (∀ y ∈ ys, q.toNat < sl l y.1) ∧ sl l x.1 ≤ q.toNat) _ (fun pre => .int .i64 (ygl pre : Int)) (by have := HZ2.out; have := HS1.out; omega))
  ⟨fun _ h => absurd h List.not_mem_nil, Below.refl _ _⟩ ?a1 ?assign ?body ?done ?stop
 case assign =>
  intro lo x W K hK
  gi_wp2
  exact hK
 case body =>
  rintro lo pre x W ⟨hp, hB⟩ hlen
  have HP := Lib.hid hp
  have HBW := Lib.hid hB
  have hg := zac G01.out (zac HB2.out hB)
  have c1 := zay (zaj (zab hg H1.out)).1
  obtain ⟨c2, c3⟩ := zaj (zab hg H2.out)
  have HC2' : Hid (W.cell? ⟨w.heap.size + 1 + 1, 0, none⟩ = some (.int .i64 0) ∧ W.frozen? ⟨w.heap.size + 1 + 1, 0, none⟩ = false) := ⟨c2, c3⟩
  have HBw : Hid (Below w.heap.size w W) := zac G1.out (zac HB2.out hB)
  obtain ⟨z0, z1, zl⟩ := zaw (zab hg H0.out)
  dsimp only at z0
  rw [za7] at z0
  have c0 := zay z0
  obtain ⟨x, hx⟩ := x
  have hxn : x < n := by have := ymo HM.out HK.out hx; have := HL.out; omega
  have y2 := zay (zgh (zfu HBw.out HX.out) (i := x) (by have := HL.out; omega))
  have u1 : (x : Int) < (n : Int) := by omega
  have u2 : (0 : Int) ≤ (x : Int) := by omega
  have HXN := Lib.hid hx
  clear hp hB c2 c3 hlen z0 z1 hg
  by_cases he : sl l x ≤ q.toNat
  ·
   have t1 : decide ((nd l x).slot.toNat ≤ q.toNat) = true := decide_eq_true he
   have t1' : decide (((nd l x).slot.toNat : Int) ≤ (q.toNat : Int)) = true := by rw [decide_eq_true_iff]; unfold sl at he; omega
   have HE := Lib.hid he
   clear he
   gi_wp2
   refine zh1 [] (by kernel_rfl) (by kernel_rfl) (by kernel_rfl) (by kernel_rfl) ?_
   repeat (refine zae rfl rfl _ zaf ?_; (first | go_big_quiet_step (fail) | quiet_step (fail)); refine wpQuiet_nil ?_)
   refine zbd ⟨rfl, ?_⟩
   obtain ⟨c2, c3⟩ := HC2'.out
   gi_wp2
   exact ⟨(KeepsOthers.drew W).trans (KeepsOthers.setCell _ _ _), ⟨⟨rfl, pre, ⟨x, HXN.out⟩, rfl, HP.out, HE.out⟩, by rw [zs9]; exact World.cell?_setCell_same' _ _ _ (by show (W.cell? _).isSome = true; rw [HC2'.out.1]; rfl)⟩, (zak HBw.out 1).setCell (p := ⟨w.heap.size + 1 + 1, 0, none⟩) (by simp; omega) _⟩
  ·
   have t1 : decide ((nd l x).slot.toNat ≤ q.toNat) = false := decide_eq_false he
   have t1' : decide (((nd l x).slot.toNat : Int) ≤ (q.toNat : Int)) = false := by rw [decide_eq_false_iff_not]; unfold sl at he; omega
   have HE := Lib.hid he
   clear he
   gi_wp2
   refine zh1 [] (by kernel_rfl) (by kernel_rfl) (by kernel_rfl) (by kernel_rfl) ?_
   repeat (refine zae rfl rfl _ zaf ?_; (first | go_big_quiet_step (fail) | quiet_step (fail)); refine wpQuiet_nil ?_)
   refine zbd ⟨rfl, ?_⟩
   gi_wp2
   exact ⟨KeepsOthers.drew W, zak (Below.refl _ _) 1, fun y hy => by
    rcases List.mem_append.1 hy with h | h
    ·
     exact HP.out y h
    ·
     rw [List.mem_singleton] at h; subst h; have := HE.out; show q.toNat < sl l x; omega, zak HBW.out 1⟩
 case done =>
  rintro D ys W hD hys ⟨hp, hB⟩ hK
  have hX : r = -1 := by
   rw [HR.out]
   refine ygr HM.out q.toNat HK.out fun y hy => ?_
   rw [← hys] at hy
   obtain ⟨z, hz, e⟩ := List.mem_map.1 hy
   rw [← e]
   exact hp z hz
  have HX' := Lib.hid hX
  have HKD := Lib.hid hK
  have hc : W.cell? ⟨w.heap.size + 1 + 1, 0, none⟩ = some (.int .i64 0) ∧ W.frozen? ⟨w.heap.size + 1 + 1, 0, none⟩ = false := zaj (zab (zac G01.out (zac HB2.out hB)) H2.out)
  have HC := Lib.hid hc
  obtain ⟨c2, c3⟩ := hc
  have HBw : Hid (Below w.heap.size w W) := zac G1.out (zac HB2.out hB)
  clear hX hp hB hK hys
  go_wp2_with fail
  have hK' := (KeepsOthers.setCell W ⟨w.heap.size + 1 + 1, 0, none⟩ (.int .i64 (-1))).same D _ HKD.out rfl
  have hs := zku hK' (World.cell?_setCell_same' W ⟨w.heap.size + 1 + 1, 0, none⟩ (.int .i64 (-1)) (by rw [HC.out.1]; rfl))
  exact zhj (v := .int .i64 (-1)) hK' ⟨by simp [results, Tryz.results81, go_sem, hs], by rw [HX'.out], zdc hK' (HBw.out.setCell (p := ⟨w.heap.size + 1 + 1, 0, none⟩) (by simp; omega) _) (by have := HZ2.out; have := HS1.out; omega)⟩
 case stop =>
  rintro D c pre W hD hpre ⟨⟨⟨rfl, ys, x, rfl, ha, hx⟩, hc⟩, hB⟩ hK
  rw [zs9] at hc
  have hX : r = (x.1 : Int) := by
   rw [HR.out]
   obtain ⟨t, ht⟩ := hpre
   rw [List.map_append, List.append_assoc] at ht
   refine ymn HM.out q.toNat k HK.out (ys.map Subtype.val) t x.1 ht.symm (fun y hy => ?_) hx
   obtain ⟨z, hz, e⟩ := List.mem_map.1 hy
   rw [← e]
   exact ha z hz
  have HX' := Lib.hid hX
  have HBW := Lib.hid hB
  have HKD := Lib.hid hK
  have hs := zku hK hc
  have HD := Lib.hid hD
  clear hX hB ha hx hpre
  gi_wp2
  exact zhj (v := .int .i64 (x.1 : Int)) HKD.out ⟨by simp [results, Tryz.results81, go_sem, hs], by rw [HX'.out], zdc HKD.out HBW.out (by have := HZ2.out; have := HS1.out; have := HD.out; omega)⟩
theorem yqz (s : SlV) (l : List Nd) (i : Int) (q : UInt64) (w : World) (h : SlE Ene w (sv s) l) :
  Calls Tryz.prog 81 #[.agg (tr ⟨s⟩), .int .i64 i, .int .u64 (q.toNat : Int)] w fun e w' => e = .returned (.int .i64 (atZ l i q.toNat)) ∧ Below w.heap.size w w' := by
 by_cases hk : isT l i = true
 ·
  obtain ⟨hm, hk0, hk1⟩ := zdi.1 hk
  obtain ⟨k', rfl⟩ : ∃ k' : Nat, i = k' := ⟨i.toNat, by omega⟩
  rw [zjy hm (by omega)]
  exact z79 s l k' q w h hm (by omega)
 ·
  have hk' : isT l i = false := by simpa using hk
  unfold atZ
  rw [hk', if_neg Bool.false_ne_true]
  exact ydo s l i q w h hk'
end
theorem z1n (T : Nat) (x : Sn) (s : Sg) (c : Cl) (w : World) (hT : w.heap[T]? = some (.cells (sn x) 40 (0, 0))) (h : LaidS w x s) :
  Calls Tryz.prog 78 #[.agg (cl c), .pointer (some ⟨T, 0, none⟩)] w fun e w' => e = .returned (.agg (rs ⟨0, s.head, false, zcc⟩)) ∧ Below w.heap.size w w' := by
 obtain ⟨W0, hW0⟩ : ∃ W0, W0 = (w.alloc (.cells (cl c) 43)).alloc (.cells (rs zrs) 51) := ⟨_, rfl⟩
 obtain ⟨hB, q0, q1, _⟩ := zdb w _ _ _ _ W0 hW0
 have A : Hid (Sw w W0 T x s) := Sw.keep ⟨hT, h, Below.refl _ _⟩ hB
 have MC : Hid (W0.heap[w.heap.size]? = some (.cells (cl c) 43 (0, 0))) := q0
 have MR : Hid (W0.heap[w.heap.size + 1]? = some (.cells (rs zrs) 51 (0, 0))) := q1
 have HW := Lib.hid hW0
 clear hW0 hB q0 q1 h hT
 go_enter Tryz.func78, Tryz.ntmps78
 go_upto_region 1 with fail
 rw [← HW.out]
 have z := A.out.zh
 have yw := za0 MR.out (za1 _)
 go_wp2_with fail
 exact bodyPost_ret (zax Tryz.isAgg51 Tryz.sizeOf51 _ 3 rfl _ _ _ _ rfl (zbh MR.out (za1 _) (za1 _))) rfl ⟨rfl, zap A.out.g (by omega)⟩
theorem z62 (T : Nat) (x : Sn) (s : Sg) (c : Cl) (w : World) (hT : w.heap[T]? = some (.cells (sn x) 40 (0, 0))) (h : LaidS w x s) :
  Calls Tryz.prog 79 #[.agg (cl c), .pointer (some ⟨T, 0, none⟩)] w fun e w' => e = .returned (.agg (rs ⟨0, zr, false, s.fin⟩)) ∧ Below w.heap.size w w' := by
 obtain ⟨W0, hW0⟩ : ∃ W0, W0 = (w.alloc (.cells (cl c) 43)).alloc (.cells (rs zrs) 51) := ⟨_, rfl⟩
 obtain ⟨hB, q0, q1, _⟩ := zdb w _ _ _ _ W0 hW0
 have A : Hid (Sw w W0 T x s) := Sw.keep ⟨hT, h, Below.refl _ _⟩ hB
 have MC : Hid (W0.heap[w.heap.size]? = some (.cells (cl c) 43 (0, 0))) := q0
 have MR : Hid (W0.heap[w.heap.size + 1]? = some (.cells (rs zrs) 51 (0, 0))) := q1
 have HW := Lib.hid hW0
 clear hW0 hB q0 q1 h hT
 go_enter Tryz.func79, Tryz.ntmps79
 go_upto_region 1 with fail
 rw [← HW.out]
 have z := A.out.zf
 have yw := za0 MR.out (za1 _)
 go_wp2_with fail
 exact bodyPost_ret (zax Tryz.isAgg51 Tryz.sizeOf51 _ 3 rfl _ _ _ _ rfl (zbh MR.out (za1 _) (za1 _))) rfl ⟨rfl, zap A.out.g (by omega)⟩
theorem z61 (T : Nat) (x : Sn) (s : Sg) (c : Cl) (w : World) (hT : w.heap[T]? = some (.cells (sn x) 40 (0, 0))) (h : LaidS w x s) (hm : mayN s = true) :
  Calls Tryz.prog 80 #[.agg (cl c), .pointer (some ⟨T, 0, none⟩)] w fun e w' => e = .returned (.agg (rs (rsOf (askN s 6 c.a c.b c.slot.toNat)))) ∧ Below w.heap.size w w' := by
 obtain ⟨W0, hW0⟩ : ∃ W0, W0 = (w.alloc (.cells (cl c) 43)).alloc (.cells (rs zrs) 51) := ⟨_, rfl⟩
 obtain ⟨hB, q0, q1, _⟩ := zdb w _ _ _ _ W0 hW0
 have A : Hid (Sw w W0 T x s) := Sw.keep ⟨hT, h, Below.refl _ _⟩ hB
 have MC : Hid (W0.heap[w.heap.size]? = some (.cells (cl c) 43 (0, 0))) := q0
 have MR : Hid (W0.heap[w.heap.size + 1]? = some (.cells (rs zrs) 51 (0, 0))) := q1
 have HW := Lib.hid hW0
 have HF1 := Lib.hid (fun W hh => zdh x.t.n s.t c.a W hh)
 have HAt := Lib.hid (fun i W hh => yqz x.t.n s.t i c.slot W hh)
 have HMy := Lib.hid hm
 obtain ⟨a, ha⟩ : ∃ a, a = zal s.t c.a := ⟨_, rfl⟩
 obtain ⟨R, hR⟩ : ∃ R, R = rsOf (askN s 6 c.a c.b c.slot.toNat) := ⟨_, rfl⟩
 rw [← hR]
 rw [← ha] at HF1
 have HR := Lib.hid hR
 have HA := Lib.hid ha
 clear hW0 hB q0 q1 h hT hm ha hR
 go_enter Tryz.func80, Tryz.ntmps80
 go_upto_region 1 with fail
 rw [← HW.out]
 have zT := A.out.zT
 have c2 := zoi MC.out
 go_wp2_with fail
 refine (HF1.out _ A.out.l.t).mono ?_
 rintro e w2 ⟨rfl, g⟩
 replace A := Lib.hid (A.out.keep g)
 replace MC := Lib.hid (zab g MC.out)
 replace MR := Lib.hid (zab g MR.out)
 clear g zT c2 HF1
 have q := zt1 HMy.out c.a c.b c.slot.toNat
 have hask2 := HR.out
 rcases q with ⟨q1, q2⟩ | ⟨i, q1, q2, q3⟩
 ·
  rw [q2] at hask2
  obtain rfl : a = -1 := HA.out.trans q1
  clear q1 q2
  obtain rfl : R = ⟨5, zr, false, zcc⟩ := by rw [hask2]; rfl
  have yw := za0 MR.out (za1 _)
  go_wp2_with fail
  exact bodyPost_ret (zax Tryz.isAgg51 Tryz.sizeOf51 _ 3 rfl _ _ _ _ rfl (zbh MR.out (za1 _) (za1 _))) rfl ⟨rfl, zap A.out.g (by omega)⟩
 ·
  obtain rfl : a = (i : Int) := HA.out.trans q2
  have t1 : decide ((i : Int) = -1) = false := decide_eq_false (by omega)
  have t1b : ((i : Int) == -1) = false := by rw [beq_eq_false_iff_ne]; omega
  have HAi := Lib.hid (HAt.out (i : Int))
  rw [zjy (zqk HMy.out) q1] at HAi
  have zT := A.out.zT
  have c4 := zpe MC.out
  rcases q3 with ⟨q4, q5, _⟩ | ⟨q, q4, q5, _, _, q6⟩
  ·
   rw [q5] at hask2
   rw [q4] at HAi
   clear q1 q2 q4 q5
   go_wp2_with fail
   refine (HAi.out _ A.out.l.t).mono ?_
   rintro e w4 ⟨rfl, g⟩
   replace A := Lib.hid (A.out.keep g)
   replace MC := Lib.hid (zab g MC.out)
   replace MR := Lib.hid (zab g MR.out)
   clear g zT c4
   obtain rfl : R = ⟨8, zr, false, zcc⟩ := by rw [hask2]; rfl
   have yw := za0 MR.out (za1 _)
   go_wp2_with fail
   exact bodyPost_ret (zax Tryz.isAgg51 Tryz.sizeOf51 _ 3 rfl _ _ _ _ rfl (zbh MR.out (za1 _) (za1 _))) rfl ⟨rfl, zap A.out.g (by omega)⟩
  ·
   rw [q6] at hask2
   rw [q4] at HAi
   have Q5 := Lib.hid q5
   clear q1 q2 q4 q5 q6
   go_wp2_with fail
   refine (HAi.out _ A.out.l.t).mono ?_
   rintro e w4 ⟨rfl, g⟩
   replace A := Lib.hid (A.out.keep g)
   replace MC := Lib.hid (zab g MC.out)
   replace MR := Lib.hid (zab g MR.out)
   clear g zT c4
   obtain ⟨⟨pt, nt, ct⟩, hst⟩ : ∃ s : SlV, s = x.t.n := ⟨_, rfl⟩
   have hnt := zek A.out.l.t
   rw [← hst] at hnt
   have HNt : Hid (s.t.length = nt) := hnt
   have zt := A.out.zt
   rw [← hst, za7] at zt
   have hs := A.out.l.t
   rw [← hst, za7] at hs
   obtain ⟨bq, oq, hpq, _, qq⟩ := zda hs (by have := Q5.out; omega)
   subst hpq
   have yq := zoq qq (i := q) Q5.out
   have q4 := Q5.out
   rw [HNt.out] at q4
   have i0 : (0 : Int) ≤ (q : Int) := by omega
   have i1 : (q : Int) < (nt : Int) := by omega
   have t2 : decide ((q : Int) = -1) = false := decide_eq_false (by omega)
   have t2b : ((q : Int) == -1) = false := by rw [beq_eq_false_iff_ne]; omega
   clear hst hnt hs qq q4
   obtain rfl : R = ⟨0, (nd s.t q).root, false, zcc⟩ := by rw [hask2]; rfl
   have yw := za0 MR.out (za1 _)
   go_wp2_with fail
   exact bodyPost_ret (zax Tryz.isAgg51 Tryz.sizeOf51 _ 3 rfl _ _ _ _ rfl (zbh MR.out (za1 _) (za1 _))) rfl ⟨rfl, zap A.out.g (by omega)⟩
theorem z1m (T : Nat) (x : Sn) (s : Sg) (c : Cl) (w : World) (hT : w.heap[T]? = some (.cells (sn x) 40 (0, 0))) (h : LaidS w x s) (hm : mayN s = true) :
  Calls Tryz.prog 82 #[.agg (cl c), .pointer (some ⟨T, 0, none⟩)] w fun e w' => e = .returned (.agg (rs (rsOf (askN s 7 c.a c.b c.slot.toNat)))) ∧ Below w.heap.size w w' := by
 obtain ⟨W0, hW0⟩ : ∃ W0, W0 = (w.alloc (.cells (cl c) 43)).alloc (.cells (rs zrs) 51) := ⟨_, rfl⟩
 obtain ⟨hB, q0, q1, _⟩ := zdb w _ _ _ _ W0 hW0
 have A : Hid (Sw w W0 T x s) := Sw.keep ⟨hT, h, Below.refl _ _⟩ hB
 have MC : Hid (W0.heap[w.heap.size]? = some (.cells (cl c) 43 (0, 0))) := q0
 have MR : Hid (W0.heap[w.heap.size + 1]? = some (.cells (rs zrs) 51 (0, 0))) := q1
 have HW := Lib.hid hW0
 have HF1 := Lib.hid (fun W hh => zdh x.t.n s.t c.a W hh)
 have HF2 := Lib.hid (fun W hh => zdh x.t.n s.t c.b W hh)
 have HAb := Lib.hid (fun i k W hh => zf2 x.t.n s.t i k W hh)
 have HMy := Lib.hid hm
 obtain ⟨a, ha⟩ : ∃ a, a = zal s.t c.a := ⟨_, rfl⟩
 obtain ⟨b, hb⟩ : ∃ b, b = zal s.t c.b := ⟨_, rfl⟩
 obtain ⟨R, hR⟩ : ∃ R, R = rsOf (askN s 7 c.a c.b c.slot.toNat) := ⟨_, rfl⟩
 rw [← hR]
 rw [← ha] at HF1
 rw [← hb] at HF2
 have HR := Lib.hid hR
 have HA := Lib.hid ha
 have HB := Lib.hid hb
 clear hW0 hB q0 q1 h hT hm ha hb hR
 go_enter Tryz.func82, Tryz.ntmps82
 go_upto_region 1 with fail
 rw [← HW.out]
 have zT := A.out.zT
 have c2 := zoi MC.out
 have c3 := zt9 MC.out
 have L0 := fun p : Wd W0.drew => za8 zT (by decide) p
 have L1 := fun p : Wd W0.drew => za8 c2 (by decide) p
 have L2 := fun p : Wd W0.drew => za8 c3 (by decide) p
 clear zT c2 c3
 refine zan [4, 9] (by kernel_rfl) (by kernel_rfl) (by kernel_rfl) ?_
 repeat (first | (refine zae rfl rfl _ zaf ?_; (first | go_big_quiet_step (fail) | quiet_step (fail)); refine wpQuiet_nil ?_) | refine zah rfl ?_)
 refine zau rfl rfl rfl zeo #[.agg (tr ⟨x.t.n⟩), .agg (rc c.a)] rfl ?_
 refine (HF1.out _ (zad (zak (Below.refl _ _) 1) A.out.l.t)).mono ?_
 rintro e u ⟨rfl, g⟩
 refine ⟨_, rfl, g, ?_⟩
 simp only [Act.put, List.setIfInBounds_toArray, List.set_cons_zero, List.set_cons_succ]
 have GB : Hid (Below W0.heap.size W0 u) := zac (zak (Below.refl _ _) 1) g
 clear g
 repeat (first | (refine zae rfl rfl _ zaf ?_; (first | go_big_quiet_step (fail) | quiet_step (fail)); refine wpQuiet_nil ?_) | refine zah rfl ?_)
 refine zau rfl rfl rfl zeo #[.agg (tr ⟨x.t.n⟩), .agg (rc c.b)] rfl ?_
 refine (HF2.out _ (zad GB.out A.out.l.t)).mono ?_
 rintro e u ⟨rfl, g⟩
 refine ⟨_, rfl, g, ?_⟩
 simp only [Act.put, List.setIfInBounds_toArray, List.set_cons_zero, List.set_cons_succ]
 replace GB : Hid (Below W0.heap.size W0 u) := zac GB.out g
 clear g
 repeat (first | (refine zae rfl rfl _ zaf ?_; (first | go_big_quiet_step (fail) | quiet_step (fail)); refine wpQuiet_nil ?_) | refine zah rfl ?_)
 refine zbd ?_
 clear L0 L1 L2 HF1 HF2
 replace A := Lib.hid (A.out.keep GB.out)
 replace MC := Lib.hid (zab GB.out MC.out)
 replace MR := Lib.hid (zab GB.out MR.out)
 clear GB
 obtain ⟨w2, rfl⟩ : ∃ W : World, W = u := ⟨_, rfl⟩
 have q := zkp HMy.out c.a c.b c.slot.toNat
 have hask2 := HR.out
 rcases q with ⟨q1, q2⟩ | ⟨i, k, q1, q2, q3, q4, q5⟩
 ·
  rw [q2] at hask2
  rw [← HA.out, ← HB.out] at q1
  by_cases ha : a = -1
  ·
   subst ha
   clear q1 q2
   obtain rfl : R = ⟨5, zr, false, zcc⟩ := by rw [hask2]; rfl
   have yw := za0 MR.out (za1 _)
   go_wp2_with fail
   exact bodyPost_ret (zax Tryz.isAgg51 Tryz.sizeOf51 _ 3 rfl _ _ _ _ rfl (zbh MR.out (za1 _) (za1 _))) rfl ⟨rfl, zap A.out.g (by omega)⟩
  ·
   have t1 : decide (a = -1) = false := decide_eq_false ha
   have t1b : (a == -1) = false := by rw [beq_eq_false_iff_ne]; exact ha
   obtain rfl : b = -1 := by omega
   clear q1 q2 ha
   obtain rfl : R = ⟨5, zr, false, zcc⟩ := by rw [hask2]; rfl
   have yw := za0 MR.out (za1 _)
   go_wp2_with fail
   exact bodyPost_ret (zax Tryz.isAgg51 Tryz.sizeOf51 _ 3 rfl _ _ _ _ rfl (zbh MR.out (za1 _) (za1 _))) rfl ⟨rfl, zap A.out.g (by omega)⟩
 ·
  obtain rfl : a = (i : Int) := HA.out.trans q3
  obtain rfl : b = (k : Int) := HB.out.trans q4
  rw [q5] at hask2
  have t1 : decide ((i : Int) = -1) = false := decide_eq_false (by omega)
  have t2 : decide ((k : Int) = -1) = false := decide_eq_false (by omega)
  have t1b : ((i : Int) == -1) = false := by rw [beq_eq_false_iff_ne]; omega
  have t2b : ((k : Int) == -1) = false := by rw [beq_eq_false_iff_ne]; omega
  have HAi := Lib.hid (HAb.out (i : Int) (k : Int))
  rw [zb6 (zqk HMy.out) q1 q2] at HAi
  have zT := A.out.zT
  clear q1 q2 q3 q4 q5
  obtain ⟨d, hd⟩ : ∃ d, d = zao s.t i k := ⟨_, rfl⟩
  rw [← hd] at HAi hask2
  clear hd
  go_wp2_with fail
  refine (HAi.out _ A.out.l.t).mono ?_
  rintro e w4 ⟨rfl, g⟩
  replace A := Lib.hid (A.out.keep g)
  replace MC := Lib.hid (zab g MC.out)
  replace MR := Lib.hid (zab g MR.out)
  clear g zT HAi
  obtain rfl : R = ⟨0, zr, d, zcc⟩ := by rw [hask2]; rfl
  have yw := za0 MR.out (za1 _)
  go_wp2_with fail
  exact bodyPost_ret (zax Tryz.isAgg51 Tryz.sizeOf51 _ 3 rfl _ _ _ _ rfl (zbh MR.out (za1 _) (za1 _))) rfl ⟨rfl, zap A.out.g (by omega)⟩
section
open Go.MapKept Go.ChangeMaps
open Go.RowKit Go.MapKept Go.ChangeMaps
def HoldsI (w : World) (b : Nat) (q : IntKind) (l : List (Int × Value)) : Prop := ∃ (es : Array MapEntry) (clock : Nat), w.heap[b]? = some (.map es clock) ∧ es.toList.map (fun e => (e.key, e.val)) = l.map (fun p => (Value.int q p.1, p.2))
theorem z0u (w : World) (q : IntKind) : HoldsI (w.alloc (.map #[] 0)) w.heap.size q [] := ⟨#[], 0, heap_alloc_last _ _, rfl⟩
section
variable {w w' : World} {b : Nat} {q : IntKind} {l : List (Int × Value)}
theorem HoldsI.blk (h : HoldsI w b q l) (e : w'.heap[b]? = w.heap[b]?) : HoldsI w' b q l := by
 obtain ⟨es, c, hb, hm⟩ := h
 exact ⟨es, c, e.trans hb, hm⟩
theorem HoldsI.lt (h : HoldsI w b q l) : b < w.heap.size := by
 obtain ⟨es, c, hb, hm⟩ := h
 exact (Array.getElem?_eq_some_iff.1 hb).1
theorem HoldsI.keep (h : HoldsI w b q l) (g : Below w.heap.size w w') : HoldsI w' b q l := h.blk (g.block b h.lt)
theorem zs7 {es : Array MapEntry} (hm : es.toList.map (fun e => (e.key, e.val)) = l.map (fun p => (Value.int q p.1, p.2))) : ∀ x ∈ es.toList, ∃ p ∈ l, x.key = .int q p.1 ∧ x.val = p.2 := fun x hx => by
 have h1 : (x.key, x.val) ∈ l.map (fun p => (Value.int q p.1, p.2)) := hm ▸ List.mem_map.2 ⟨x, hx, rfl⟩
 obtain ⟨p, hp, e⟩ := List.mem_map.1 h1
 injection e with e1 e2
 exact ⟨p, hp, e1.symm, e2.symm⟩
variable {P : Program} {t k e : TypeId}
theorem HoldsI.insert (h : HoldsI w b q l) (ht : P.underlying t = some (.map k e)) (hk : P.underlying k = some (.int q)) (n : Int) (v : Value) (hn : ∀ p ∈ l, p.1 ≠ n) :
  ∃ w', (Instr.mapUpdate t (.map (some b)) (.int q n) v).run P w = .ok () w' ∧ HoldsI w' b q (l ++ [(n, v)]) ∧ w.grownBy w' (some b) := by
 obtain ⟨es, c, hb, hm⟩ := h
 have ks := zs7 hm
 rcases findNow_spec (d := .int q) (k := .int q n) rfl es.toList 0 (fun x hx => by obtain ⟨p, _, h1, _⟩ := ks x hx; rw [h1]; rfl) with ⟨h1, _⟩ | ⟨j, e0, _, h2, h3⟩
 ·
  refine ⟨setBlock w b (.map (es.push ⟨.int q n, v, c⟩) (c + 1)), ?_, ⟨_, _, heap_setBlock_same hb _, ?_⟩, ⟨rfl, rfl, rfl, by simp [setBlock], fun i _ hi => heap_setBlock_other hb _ (fun e => hi (by rw [e]))⟩⟩
  ·
   simp [Instr.mapUpdate, run_underlying ht, MapKept.run_getObj_map hb, run_checkKey hk (k := .int q n) rfl false 9999, run_findKey hk h1, MapKept.run_setObj_map _ hb, Result.andThen, setBlock]
  ·
   rw [Array.toList_push, List.map_append, List.map_append, hm]; rfl
 ·
  obtain ⟨p, hp, e1, _⟩ := ks e0 (List.mem_of_getElem? h2)
  rw [h3] at e1
  injection e1 with _ e2
  exact absurd e2.symm (hn p hp)
def zx9 (l : List (Int × Value)) (z : Value) (n : Int) : Value := match l.find? (fun p => p.1 == n) with | some p => p.2 | none => z
def hasI (l : List (Int × Value)) (n : Int) : Bool := l.any (fun p => p.1 == n)
theorem zs5 : ∀ (l : List (Int × Value)) (j : Nat) (p : Int × Value), l[j]? = some p → (l.map (·.1)).Nodup → l.find? (fun x => x.1 == p.1) = some p
 | [], _, _, h, _ => by simp at h
 | x :: r, 0, p, h, _ => by
  simp at h
  subst h
  simp
 | x :: r, j + 1, p, h, hd => by
  rw [List.map_cons, List.nodup_cons] at hd
  have hp : p ∈ r := List.mem_of_getElem? (by simpa using h)
  have hx : ¬ x.1 = p.1 := fun e => hd.1 (e ▸ List.mem_map.2 ⟨p, hp, rfl⟩)
  rw [List.find?_cons_of_neg (by simpa using hx)]
  exact zs5 r j p (by simpa using h) hd.2
theorem HoldsI.look (h : HoldsI w b q l) (ht : P.underlying t = some (.map k e)) (hk : P.underlying k = some (.int q)) (hd : (l.map (·.1)).Nodup) {z : Value} (hz : (zeroValue e).run P w = .ok z w) (n : Int) :
  (Instr.lookup t (.map (some b)) (.int q n) true).run P w = .ok (.tuple #[zx9 l z n, .bool (hasI l n)]) w := by
 obtain ⟨es, c, hb, hm⟩ := h
 have ks := zs7 hm
 have hck : ∀ em, (Instr.checkKey em 10000 k (.int q n)).run P w = .ok () w := fun em => run_checkKey hk (k := .int q n) rfl em 9999
 rcases findNow_spec (d := .int q) (k := .int q n) rfl es.toList 0 (fun x hx => by obtain ⟨p, _, h1, _⟩ := ks x hx; rw [h1]; rfl) with ⟨h1, h2⟩ | ⟨j, e0, h1, h2, h3⟩
 ·
  have hno : ∀ p ∈ l, ¬ p.1 = n := fun p hp e1 => by
   have : (Value.int q p.1, p.2) ∈ es.toList.map (fun e => (e.key, e.val)) := hm ▸ List.mem_map.2 ⟨p, hp, rfl⟩
   obtain ⟨x, hx, e2⟩ := List.mem_map.1 this
   injection e2 with e3 _
   exact h2 x hx (by rw [e3, e1])
  have f1 : zx9 l z n = z := by unfold zx9; rw [List.find?_eq_none.2 (fun p hp => by simpa using hno p hp)]
  have f2 : hasI l n = false := by unfold hasI; rw [List.any_eq_false]; intro p hp; simpa using hno p hp
  rw [f1, f2]
  simp [Instr.lookup, run_underlying ht, MapKept.run_getObj_map hb, hck, run_findKey hk h1, hz, Result.andThen]
 ·
  have hj : (es.toList.map (fun e => (e.key, e.val)))[j]? = some (e0.key, e0.val) := by rw [List.getElem?_map, h2]; rfl
  rw [hm, List.getElem?_map] at hj
  cases hl : l[j]? with
  | none => rw [hl] at hj; cases hj
  | some p =>
   rw [hl] at hj
   injection hj with hj
   injection hj with e1 e2
   rw [h3] at e1
   injection e1 with _ e1
   subst e1
   have ff := zs5 l j p hl hd
   have f1 : zx9 l z p.1 = e0.val := by unfold zx9; rw [ff]; exact e2
   have f2 : hasI l p.1 = true := by unfold hasI; rw [List.any_eq_true]; exact ⟨p, List.mem_of_getElem? hl, by simp⟩
   rw [f1, f2]
   simp [Instr.lookup, run_underlying ht, MapKept.run_getObj_map hb, hck, run_findKey hk h1, Result.andThen]
end
theorem zd7 {P : Program} {ops : Array Oper} {rest : List Oper} {o : Oper} {a : Act} {Q : Exit → Act → World → Prop} (w : World) (hg : o.guard = none) (m x v : Operand) (t : TypeId) (hop : o.op = Op.insert t m x v)
  (k e : TypeId) (q : IntKind) (ht : P.underlying t = some (.map k e)) (hk : P.underlying k = some (.int q)) (b : Nat) (l : List (Int × Value)) (hm : a.eval m = .map (some b)) (h : HoldsI w b q l) (n : Int) (val : Value) (hx : a.eval x = .int q n) (hv : a.eval v = val)
  (hn : ∀ p ∈ l, p.1 ≠ n) (hK : ∀ w', HoldsI w' b q (l ++ [(n, val)]) → w.grownBy w' (some b) → wpList P ops Q rest (a.put o.dst undef) w') : wpList P ops Q (o :: rest) a w := by
 refine wpList_plain hg fun K' hK' => ?_
 obtain ⟨w', hrun, r1, r2⟩ := h.insert ht hk n val hn
 unfold Oper.wp
 simp [execOp, hop, hm, hx, hv, hrun, Result.andThen]
 exact hK' _ _ (hK w' r1 r2)
end
end Go.Proofs.YtkalofboioffiaaGreat
