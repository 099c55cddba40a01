import Derived.Test.YtkalofboioffiaaGreatT21
namespace Go.Proofs.YtkalofboioffiaaGreat
open Go.RowKit
set_option maxRecDepth 200000
set_option maxHeartbeats 64000000
section
open Go.Shelf
attribute [local go_sem] Oper.semAt_some
theorem zu5 (s : SlV) (l : List Nd) (i k : Int) (w : World) (h : SlE Ene w (sv s) l) (hk : isT l k = false) :
  Calls Tryz.prog 23 #[.agg (tr ⟨s⟩), .int .i64 i, .int .i64 k] w fun e w' => e = .returned (.bool false) ∧ Below w.heap.size w w' := by
 have HP := Lib.hid (fun W (g : Below w.heap.size w W) => zhc s l k W (zad g h))
 rw [hk] at HP
 obtain ⟨W0, hW0⟩ : ∃ W0, W0 = ((w.alloc (.cells (tr ⟨s⟩) 24)).alloc (.cells #[.int .i64 i] 3)).alloc (.cells #[.bool false] 4) := ⟨_, rfl⟩
 obtain ⟨hB, h0, h1, h2, hz⟩ := zf2 w _ _ _ _ _ _ W0 hW0
 have HB := Lib.hid hB
 have H2 := Lib.hid h2
 have HW := Lib.hid hW0
 clear hW0 h hk hB h0 h1 h2 hz
 go_enter Tryz.func23, Tryz.ntmps23
 go_wp2_with fail
 rw [← HW.out]
 refine (HP.out W0 HB.out).mono ?_
 rintro e w1 ⟨rfl, g1⟩
 have G1 := Lib.hid (zab HB.out g1)
 have hc : w1.cell? ⟨w.heap.size + 1 + 1, 0, none⟩ = some (.bool false) ∧ w1.frozen? ⟨w.heap.size + 1 + 1, 0, none⟩ = false := zam (zac g1 H2.out)
 obtain ⟨z0, z1⟩ := hc
 clear g1
 go_wp2_with fail
 have hs := World.cell?_setCell_same' w1 ⟨w.heap.size + 1 + 1, 0, none⟩ (.bool false) (by rw [z0]; rfl)
 exact bodyPost_ret (v := .bool false) (by simp [results, Tryz.results23, go_sem, hs]) rfl ⟨rfl, G1.out.setCell (p := ⟨w.heap.size + 1 + 1, 0, none⟩) (by simp; omega) _⟩
theorem zsj (s : SlV) (l : List Nd) (i : Int) (k : Nat) (w : World) (h : SlE Ene w (sv s) l) (hm : MayT l) (hk : k < l.length) :
  Calls Tryz.prog 23 #[.agg (tr ⟨s⟩), .int .i64 i, .int .i64 (k : Int)] w fun e w' => e = .returned (.bool (decide (0 ≤ i) && zat l i.toNat k)) ∧ Below w.heap.size w w' := by
 have HP := Lib.hid (fun W (g : Below w.heap.size w W) => zhc s l k W (zad g h))
 rw [zg0 hm hk] at HP
 have HL := Lib.hid (zbk h)
 obtain ⟨p, n, cp⟩ := s
 dsimp only at HL
 obtain ⟨b1, o1, rfl, q1, x1⟩ := zcj h hm.pos
 obtain ⟨W0, hW0⟩ : ∃ W0, W0 = ((w.alloc (.cells (tr ⟨⟨some ⟨b1, o1, none⟩, n, cp⟩⟩) 24)).alloc (.cells #[.int .i64 i] 3)).alloc (.cells #[.bool false] 4) := ⟨_, rfl⟩
 obtain ⟨hB, h0, h1, h2, hz⟩ := zf2 w _ _ _ _ _ _ W0 hW0
 have HB := Lib.hid hB
 have H0 := Lib.hid h0
 have H1 := Lib.hid h1
 have H2 := Lib.hid h2
 have HZ := Lib.hid hz
 have HW := Lib.hid hW0
 have HX := Lib.hid x1
 have HQ := Lib.hid q1
 have HM := Lib.hid hm
 have HK := Lib.hid hk
 obtain ⟨r, hr⟩ : ∃ r, r = (decide (0 ≤ i) && zat l i.toNat k) := ⟨_, rfl⟩
 rw [← hr]
 have HR := Lib.hid hr
 clear hW0 h hk hB h0 h1 h2 hz hm x1 q1 hr
 refine callsIn_wide.1 (callsIn_of_wp_marks (n := 3) Tryz.func23 rfl trivial (wpIn_wide.2 ?_))
 simp only [Tryz.ntmps23, List.size_toArray, List.length_cons, List.length_nil, Nat.reduceAdd, Nat.reduceSub, Array.replicate_succ, Array.replicate_zero, List.push_toArray, List.append_toArray, List.nil_append, List.cons_append]
 go_wp2_with fail
 rw [← HW.out]
 refine (HP.out W0 HB.out).mono ?_
 rintro e w1 ⟨rfl, g1⟩
 have G1 := Lib.hid (zab HB.out g1)
 have G01 := Lib.hid g1
 have z1 := zar (zac g1 H0.out) (zbn _)
 clear g1
 go_wp2_with fail
 refine (zzz _ _ _).mono ?_
 rintro e w2 ⟨rfl, hw2⟩
 obtain ⟨hB2, hT2, hC2, hz2⟩ := zc2 w1 _ _ _ _ w2 hw2
 have HB2 := Lib.hid hB2
 have HT2 := Lib.hid hT2
 have HC2 := Lib.hid hC2
 have HZ2 := Lib.hid hz2
 clear hw2 hB2 hT2 hC2 hz2 z1
 go_wp2_with fail
 refine (wpIn_wide (n := 3)).1 ?_
 have hs1 : w.heap.size + 3 ≤ w1.heap.size := by have := G01.out.size; have := HZ.out; omega
 have HS1 := Lib.hid hs1
 clear hs1
 refine wpIn_rangeFunc_ownF (w0 := w2) rfl (by omega) (gf := 95) (lb := #[.pointer (some ⟨w1.heap.size + 1, 0, none⟩), .pointer (some ⟨w1.heap.size, 0, none⟩)]) rfl trivial (za7 Tryz.func95 (by kernel_rfl) (by kernel_rfl))
  (zp2 Fence.wide 2 trivial rfl (by omega) (w1.heap.size + 1) w1.heap.size b1 o1 n cp w2.heap.size l k w2 HM.out HL.out (by have := HL.out; have := HK.out; omega)
   (zam HC2.out).1 HT2.out (zbu (zab G1.out HB2.out) HX.out) (by have := HZ2.out; omega) (by have := HZ2.out; omega) (by have := HQ.out; have := HS1.out; have := HZ2.out; omega) (Nat.le_refl _))
  belowK_t (belowK_b (Nat.le_refl _)) (Below.refl _ _) (fun _ => rfl)
  (fun pre W => (∀ y ∈ pre, ((y.1 : Nat) : Int) ≠ i) ∧ Below w2.heap.size w2 W)
  (fun c pre W => (((c = .ret ∧ ∃ y ∈ pre, ((y.1 : Nat) : Int) = i) ∧ W.cell? ⟨w.heap.size + 1 + 1, 0, none⟩ = some (.bool true)) ∧ Below w.heap.size w W))
  (z64 _ (Nat.le_refl _)) (fun c => zy9 (w := w) (B := w2.heap.size) (fun pre : List (Ln l k) => c = .ret ∧ ∃ y ∈ pre, ((y.1 : Nat) : Int) = i) _ (fun _ => .bool true) (by have := HZ2.out; have := HS1.out; omega))
  ⟨fun _ h => absurd h List.not_mem_nil, Below.refl _ _⟩ ?a1 ?assign ?body ?done ?stop
 case assign =>
  intro lo x W K hK
  gi_wp2
  exact hK
 case body =>
  rintro lo pre x W ⟨hp, hB⟩ hlen
  have HP := Lib.hid hp
  have HBW := Lib.hid hB
  have c1 := (zam (zac (zab G01.out (zab HB2.out hB)) H1.out)).1
  obtain ⟨c2, c3⟩ := zam (zac (zab G01.out (zab HB2.out hB)) H2.out)
  have HC2' : Hid (W.cell? ⟨w.heap.size + 1 + 1, 0, none⟩ = some (.bool false) ∧ W.frozen? ⟨w.heap.size + 1 + 1, 0, none⟩ = false) := ⟨c2, c3⟩
  have HBw : Hid (Below w.heap.size w W) := zab G1.out (zab HB2.out hB)
  clear hp hB c2 c3 hlen
  obtain ⟨c2, c3⟩ := HC2'.out
  by_cases he : ((x.1 : Nat) : Int) = i
  ·
   have t1 : (((x.1 : Nat) : Int) == i) = true := by simpa using he
   have HE := Lib.hid he
   clear he
   gi_wp2
   exact ⟨KeepsOthers.setCell _ _ _, ⟨⟨rfl, x, by simp, HE.out⟩, World.cell?_setCell_same' _ _ _ (by rw [HC2'.out.1]; rfl)⟩, HBw.out.setCell (p := ⟨w.heap.size + 1 + 1, 0, none⟩) (by simp; omega) _⟩
  ·
   have t1 : (((x.1 : Nat) : Int) == i) = false := by simpa using he
   have HE := Lib.hid he
   clear he
   gi_wp2
   exact ⟨KeepsOthers.refl _, Below.refl _ _, fun y hy => by
    rcases List.mem_append.1 hy with h | h
    ·
     exact HP.out y h
    ·
     rw [List.mem_singleton] at h; subst h; exact HE.out, HBW.out⟩
 case done =>
  rintro D ys W hD hys ⟨hp, hB⟩ hK
  have hX : r = false := by
   rw [HR.out, Bool.and_eq_false_iff, ← Bool.not_eq_true]
   by_cases h0 : 0 ≤ i
   ·
    right
    rw [← Bool.not_eq_true]
    intro ha
    have hin := (zls HM.out i.toNat k HK.out).2 ha
    rw [← hys] at hin
    obtain ⟨y, hy, e⟩ := List.mem_map.1 hin
    exact hp y hy (by omega)
   ·
    left; simpa using h0
  have HX' := Lib.hid hX
  have HKD := Lib.hid hK
  have HBW := Lib.hid hB
  have hc : W.cell? ⟨w.heap.size + 1 + 1, 0, none⟩ = some (.bool false) ∧ W.frozen? ⟨w.heap.size + 1 + 1, 0, none⟩ = false := zam (zac (zab G01.out (zab HB2.out hB)) H2.out)
  have HC := Lib.hid hc
  obtain ⟨c2, c3⟩ := hc
  have HBw : Hid (Below w.heap.size w W) := zab G1.out (zab HB2.out hB)
  clear hX hp hB hK hys
  go_wp2_with fail
  have hK' := (KeepsOthers.setCell W ⟨w.heap.size + 1 + 1, 0, none⟩ (.bool false)).same D _ HKD.out rfl
  have hs := zir hK' (World.cell?_setCell_same' W ⟨w.heap.size + 1 + 1, 0, none⟩ (.bool false) (by rw [HC.out.1]; rfl))
  exact zf6 (v := .bool false) hK' ⟨by simp [results, Tryz.results23, go_sem, hs], by rw [HX'.out], zcu hK' (HBw.out.setCell (p := ⟨w.heap.size + 1 + 1, 0, none⟩) (by simp; omega) _) (by have := HZ2.out; have := HS1.out; omega)⟩
 case stop =>
  rintro D c pre W hD hpre ⟨⟨⟨rfl, y, hy, he⟩, hc⟩, hB⟩ hK
  have hX : r = true := by
   rw [HR.out, Bool.and_eq_true, decide_eq_true_iff]
   refine ⟨by omega, (zls HM.out i.toNat k HK.out).1 ?_⟩
   rw [show i.toNat = y.1 by omega]
   exact hpre.subset (List.mem_map_of_mem hy)
  have HX' := Lib.hid hX
  have HBW := Lib.hid hB
  have HKD := Lib.hid hK
  have hs := zir hK hc
  have HD := Lib.hid hD
  clear hX hB hy he hpre
  gi_wp2
  exact zf6 (v := .bool true) HKD.out ⟨by simp [results, Tryz.results23, go_sem, hs], by rw [HX'.out], zcu HKD.out HBW.out (by have := HZ2.out; have := HS1.out; have := HD.out; omega)⟩
theorem zhb (s : SlV) (l : List Nd) (i k : Int) (w : World) (h : SlE Ene w (sv s) l) :
  Calls Tryz.prog 23 #[.agg (tr ⟨s⟩), .int .i64 i, .int .i64 k] w fun e w' => e = .returned (.bool (zbp l i k)) ∧ Below w.heap.size w w' := by
 by_cases hk : isT l k = true
 ·
  obtain ⟨hm, hk0, hk1⟩ := zb2.1 hk
  obtain ⟨k', rfl⟩ : ∃ k' : Nat, k = k' := ⟨k.toNat, by omega⟩
  have e : zbp l i (k' : Int) = (decide (0 ≤ i) && zat l i.toNat k') := by
   unfold zbp
   rw [hk, Int.toNat_natCast, Bool.and_true]
   by_cases h0 : 0 ≤ i
   ·
    rw [decide_eq_true h0, Bool.true_and]
    by_cases ha : zat l i.toNat k' = true
    ·
     have := zhf hm i.toNat k' (by omega) ha
     rw [ha, Bool.and_true]
     exact zb2.2 ⟨hm, h0, by omega⟩
    ·
     rw [Bool.not_eq_true] at ha
     rw [ha, Bool.and_false]
   ·
    have : isT l i = false := by
     rw [← Bool.not_eq_true, zb2]
     exact fun hh => h0 hh.2.1
    rw [this, decide_eq_false h0]
  rw [e]
  exact zsj s l i k' w h hm (by omega)
 ·
  have hk' : isT l k = false := by simpa using hk
  have e : zbp l i k = false := by unfold zbp; rw [hk', Bool.and_false, Bool.false_and]
  rw [e]
  exact zu5 s l i k w h hk'
end
theorem zdw : ∀ args w, (callFunc 21 args).run Tryz.prog w = .ok (.enter 21 args) w := za7 Tryz.func21 (by kernel_rfl) (by kernel_rfl)
theorem zgv : ∀ args w, (callFunc 23 args).run Tryz.prog w = .ok (.enter 23 args) w := za7 Tryz.func23 (by kernel_rfl) (by kernel_rfl)
theorem zue (x : Sn) (s : Sg) (w : World) (h : LaidS w x s) :
  Calls Tryz.prog 15 #[.agg (sn x)] w fun e w' => e = .returned (.bool (mayN s)) ∧ Below w.heap.size w w' := by
 obtain ⟨W0, hW0⟩ : ∃ W0, W0 = w.alloc (.cells (sn x) 40) := ⟨_, rfl⟩
 have A : Hid (Sw w W0 w.heap.size x s) := by rw [hW0]; exact z8c h
 have HW := Lib.hid hW0
 have HFd := Lib.hid (fun r W hh => zeh x.t.n s.t r W hh)
 have HAb := Lib.hid (fun i k W hh => zhb x.t.n s.t i k W hh)
 obtain ⟨f, hf⟩ : ∃ f, f = zaz s.t s.fin.root := ⟨_, rfl⟩
 obtain ⟨i, hi⟩ : ∃ i, i = zaz s.t s.head := ⟨_, rfl⟩
 obtain ⟨k, hk⟩ : ∃ k, k = zaz s.t s.just.root := ⟨_, rfl⟩
 have H1 := Lib.hid (HFd.out s.fin.root)
 have H2 := Lib.hid (HFd.out s.head)
 have H3 := Lib.hid (HFd.out s.just.root)
 have H4 := Lib.hid (HAb.out f i)
 have H5 := Lib.hid (HAb.out f k)
 rw [← hf] at H1
 rw [← hi] at H2
 rw [← hk] at H3
 obtain ⟨a, ha⟩ : ∃ a, a = zbp s.t f i := ⟨_, rfl⟩
 obtain ⟨b, hb⟩ : ∃ b, b = zbp s.t f k := ⟨_, rfl⟩
 rw [← ha] at H4
 rw [← hb] at H5
 obtain ⟨r, hr⟩ : ∃ r, r = mayN s := ⟨_, rfl⟩
 have HF : Hid (r = (a && b)) := by show _ = _; rw [hr, ha, hb, hf, hi, hk]; rfl
 rw [← hr]
 clear hW0 h HFd HAb hf hi hk ha hb hr
 go_enter Tryz.func15, Tryz.ntmps15
 go_upto_region 1 with fail
 rw [← HW.out]
 have zT := A.out.zT
 have zr := A.out.zr
 go_wp2_with fail
 refine (H1.out _ A.out.l.t).mono ?_
 rintro e w1 ⟨rfl, gg⟩
 replace A := Lib.hid (A.out.keep gg)
 clear zT zr gg H1
 have zT := A.out.zT
 have zh := A.out.zh
 have zJ := A.out.zJ
 go_upto_region 2 with fail
 have L0 := fun p : Wd w1.drew => zbb zT (by decide) p
 have L1 := fun p : Wd w1.drew => zbb zh (by decide) p
 have L2 := fun p : Wd w1.drew => zbb zJ (by decide) p
 clear zT zh zJ
 refine zaj [7, 8, 9, 18, 19] (by kernel_rfl) (by kernel_rfl) (by kernel_rfl) ?_
 repeat (first | (refine zae rfl rfl _ zaf ?_; (first | go_big_quiet_step (fail) | quiet_step (fail)); refine wpQuiet_nil ?_) | refine zag rfl ?_)
 refine zan rfl rfl rfl zdw #[.agg (tr ⟨x.t.n⟩), .agg (rc s.head)] rfl ?_
 refine (H2.out _ (zad (zah (Below.refl _ _) 1) A.out.l.t)).mono ?_
 rintro e u ⟨rfl, g⟩
 refine ⟨_, rfl, g, ?_⟩
 simp only [Act.put, List.setIfInBounds_toArray, List.set_cons_zero, List.set_cons_succ]
 have GB : Hid (Below w1.heap.size w1 u) := zab (zah (Below.refl _ _) 1) g
 clear g
 repeat (first | (refine zae rfl rfl _ zaf ?_; (first | go_big_quiet_step (fail) | quiet_step (fail)); refine wpQuiet_nil ?_) | refine zag rfl ?_)
 refine zan rfl rfl rfl zgv #[.agg (tr ⟨x.t.n⟩), .int .i64 f, .int .i64 i] rfl ?_
 refine (H4.out _ (zad GB.out A.out.l.t)).mono ?_
 rintro e u ⟨rfl, g⟩
 refine ⟨_, rfl, g, ?_⟩
 simp only [Act.put, List.setIfInBounds_toArray, List.set_cons_zero, List.set_cons_succ]
 replace GB : Hid (Below w1.heap.size w1 u) := zab GB.out g
 clear g
 cases a
 ·
  repeat (first | (refine zae rfl rfl _ zaf ?_; (first | go_big_quiet_step (fail) | quiet_step (fail)); refine wpQuiet_nil ?_) | refine zag rfl ?_)
  refine zff rfl rfl (.bool false) _ rfl (Below.refl _ _) ?_
  simp only [Act.put, List.setIfInBounds_toArray, List.set_cons_zero, List.set_cons_succ]
  repeat (first | (refine zae rfl rfl _ zaf ?_; (first | go_big_quiet_step (fail) | quiet_step (fail)); refine wpQuiet_nil ?_) | refine zag rfl ?_)
  refine za3 ?_
  clear L0 L1 L2
  replace A := Lib.hid (A.out.keep GB.out)
  clear GB
  obtain ⟨w2, rfl⟩ : ∃ W : World, W = u := ⟨_, rfl⟩
  go_wp2_with fail
  go_ret
  exact ⟨by rw [HF.out]; first | done | rfl | simp, A.out.g⟩
 ·
  repeat (first | (refine zae rfl rfl _ zaf ?_; (first | go_big_quiet_step (fail) | quiet_step (fail)); refine wpQuiet_nil ?_) | refine zag rfl ?_)
  refine zff rfl rfl (.bool true) _ rfl (Below.refl _ _) ?_
  simp only [Act.put, List.setIfInBounds_toArray, List.set_cons_zero, List.set_cons_succ]
  repeat (first | (refine zae rfl rfl _ zaf ?_; (first | go_big_quiet_step (fail) | quiet_step (fail)); refine wpQuiet_nil ?_) | refine zag rfl ?_)
  refine zan rfl rfl rfl zdw #[.agg (tr ⟨x.t.n⟩), .agg (rc s.just.root)] rfl ?_
  refine (H3.out _ (zad GB.out A.out.l.t)).mono ?_
  rintro e u ⟨rfl, g⟩
  refine ⟨_, rfl, g, ?_⟩
  simp only [Act.put, List.setIfInBounds_toArray, List.set_cons_zero, List.set_cons_succ]
  replace GB : Hid (Below w1.heap.size w1 u) := zab GB.out g
  clear g
  repeat (first | (refine zae rfl rfl _ zaf ?_; (first | go_big_quiet_step (fail) | quiet_step (fail)); refine wpQuiet_nil ?_) | refine zag rfl ?_)
  refine zan rfl rfl rfl zgv #[.agg (tr ⟨x.t.n⟩), .int .i64 f, .int .i64 k] rfl ?_
  refine (H5.out _ (zad GB.out A.out.l.t)).mono ?_
  rintro e u ⟨rfl, g⟩
  refine ⟨_, rfl, g, ?_⟩
  simp only [Act.put, List.setIfInBounds_toArray, List.set_cons_zero, List.set_cons_succ]
  replace GB : Hid (Below w1.heap.size w1 u) := zab GB.out g
  clear g
  repeat (first | (refine zae rfl rfl _ zaf ?_; (first | go_big_quiet_step (fail) | quiet_step (fail)); refine wpQuiet_nil ?_) | refine zag rfl ?_)
  refine za3 ?_
  clear L0 L1 L2
  replace A := Lib.hid (A.out.keep GB.out)
  clear GB
  obtain ⟨w2, rfl⟩ : ∃ W : World, W = u := ⟨_, rfl⟩
  go_wp2_with fail
  go_ret
  exact ⟨by rw [HF.out]; first | done | rfl | simp, A.out.g⟩
section
open Go.Shelf
attribute [local go_sem] Oper.semAt_some
def yaw {l : List Nd} {k : Nat} (pre : List (Ln l k)) : Nat := (pre.map Subtype.val).getLastD 0
theorem zpz {l : List Nd} {k : Nat} (pre : List (Ln l k)) (x : Ln l k) : yaw (pre ++ [x]) = x.1 := by unfold yaw; simp
theorem z8d (s : SlV) (l : List Nd) (i : Int) (q : UInt64) (w : World) (h : SlE Ene w (sv s) l) (hk : isT l i = false) :
  Calls Tryz.prog 81 #[.agg (tr ⟨s⟩), .int .i64 i, .int .u64 (q.toNat : Int)] w fun e w' => e = .returned (.int .i64 (-1)) ∧ Below w.heap.size w w' := by
 have HP := Lib.hid (fun W (g : Below w.heap.size w W) => zhc s l i W (zad g h))
 rw [hk] at HP
 obtain ⟨W0, hW0⟩ : ∃ W0, W0 = ((w.alloc (.cells (tr ⟨s⟩) 24)).alloc (.cells #[.int .u64 (q.toNat : Int)] 27)).alloc (.cells #[.int .i64 0] 3) := ⟨_, rfl⟩
 obtain ⟨hB, h0, h1, h2, hz⟩ := zf2 w _ _ _ _ _ _ W0 hW0
 have HB := Lib.hid hB
 have H2 := Lib.hid h2
 have HW := Lib.hid hW0
 clear hW0 h hk hB h0 h1 h2 hz
 go_enter Tryz.func81, Tryz.ntmps81
 go_wp2_with fail
 rw [← HW.out]
 refine (HP.out W0 HB.out).mono ?_
 rintro e w1 ⟨rfl, g1⟩
 have G1 := Lib.hid (zab HB.out g1)
 have hc : w1.cell? ⟨w.heap.size + 1 + 1, 0, none⟩ = some (.int .i64 0) ∧ w1.frozen? ⟨w.heap.size + 1 + 1, 0, none⟩ = false := zam (zac g1 H2.out)
 obtain ⟨z0, z1⟩ := hc
 clear g1
 go_wp2_with fail
 have hs := World.cell?_setCell_same' w1 ⟨w.heap.size + 1 + 1, 0, none⟩ (.int .i64 (-1)) (by rw [z0]; rfl)
 exact bodyPost_ret (v := .int .i64 (-1)) (by simp [results, Tryz.results81, go_sem, hs]) rfl ⟨rfl, G1.out.setCell (p := ⟨w.heap.size + 1 + 1, 0, none⟩) (by simp; omega) _⟩
theorem z27 (s : SlV) (l : List Nd) (k : Nat) (q : UInt64) (w : World) (h : SlE Ene w (sv s) l) (hm : MayT l) (hk : k < l.length) :
  Calls Tryz.prog 81 #[.agg (tr ⟨s⟩), .int .i64 (k : Int), .int .u64 (q.toNat : Int)] w fun e w' => e = .returned (.int .i64 (atT l k q.toNat)) ∧ Below w.heap.size w w' := by
 have HP := Lib.hid (fun W (g : Below w.heap.size w W) => zhc s l k W (zad g h))
 rw [zg0 hm hk] at HP
 have HL := Lib.hid (zbk h)
 obtain ⟨p, n, cp⟩ := s
 dsimp only at HL
 obtain ⟨b1, o1, rfl, q1, x1⟩ := zcj h hm.pos
 obtain ⟨W0, hW0⟩ : ∃ W0, W0 = ((w.alloc (.cells (tr ⟨⟨some ⟨b1, o1, none⟩, n, cp⟩⟩) 24)).alloc (.cells #[.int .u64 (q.toNat : Int)] 27)).alloc (.cells #[.int .i64 0] 3) := ⟨_, rfl⟩
 obtain ⟨hB, h0, h1, h2, hz⟩ := zf2 w _ _ _ _ _ _ W0 hW0
 have HB := Lib.hid hB
 have H0 := Lib.hid h0
 have H1 := Lib.hid h1
 have H2 := Lib.hid h2
 have HZ := Lib.hid hz
 have HW := Lib.hid hW0
 have HX := Lib.hid x1
 have HQ := Lib.hid q1
 have HM := Lib.hid hm
 have HK := Lib.hid hk
 obtain ⟨r, hr⟩ : ∃ r, r = atT l k q.toNat := ⟨_, rfl⟩
 rw [← hr]
 have HR := Lib.hid hr
 clear hW0 h hk hB h0 h1 h2 hz hm x1 q1 hr
 refine callsIn_wide.1 (callsIn_of_wp_marks (n := 3) Tryz.func81 rfl trivial (wpIn_wide.2 ?_))
 simp only [Tryz.ntmps81, List.size_toArray, List.length_cons, List.length_nil, Nat.reduceAdd, Nat.reduceSub, Array.replicate_succ, Array.replicate_zero, List.push_toArray, List.append_toArray, List.nil_append, List.cons_append]
 go_wp2_with fail
 rw [← HW.out]
 refine (HP.out W0 HB.out).mono ?_
 rintro e w1 ⟨rfl, g1⟩
 have G1 := Lib.hid (zab HB.out g1)
 have G01 := Lib.hid g1
 have z1 := zar (zac g1 H0.out) (zbn _)
 clear g1
 go_wp2_with fail
 refine (zzz _ _ _).mono ?_
 rintro e w2 ⟨rfl, hw2⟩
 obtain ⟨hB2, hT2, hC2, hz2⟩ := zc2 w1 _ _ _ _ w2 hw2
 have HB2 := Lib.hid hB2
 have HT2 := Lib.hid hT2
 have HC2 := Lib.hid hC2
 have HZ2 := Lib.hid hz2
 clear hw2 hB2 hT2 hC2 hz2 z1
 go_wp2_with fail
 refine (wpIn_wide (n := 3)).1 ?_
 have hs1 : w.heap.size + 3 ≤ w1.heap.size := by have := G01.out.size; have := HZ.out; omega
 have HS1 := Lib.hid hs1
 clear hs1
 refine wpIn_rangeFunc_ownF (w0 := w2) rfl (by omega) (gf := 95) (lb := #[.pointer (some ⟨w1.heap.size + 1, 0, none⟩), .pointer (some ⟨w1.heap.size, 0, none⟩)]) rfl trivial (za7 Tryz.func95 (by kernel_rfl) (by kernel_rfl))
  (zp2 Fence.wide 2 trivial rfl (by omega) (w1.heap.size + 1) w1.heap.size b1 o1 n cp w2.heap.size l k w2 HM.out HL.out (by have := HL.out; have := HK.out; omega)
   (zam HC2.out).1 HT2.out (zbu (zab G1.out HB2.out) HX.out) (by have := HZ2.out; omega) (by have := HZ2.out; omega) (by have := HQ.out; have := HS1.out; have := HZ2.out; omega) (Nat.le_refl _))
  belowK_t (belowK_b (Nat.le_refl _)) (Below.refl _ _) (fun _ => rfl)
  (fun pre W => (∀ y ∈ pre, q.toNat < sl l y.1) ∧ Below w2.heap.size w2 W)
  (fun c pre W => (((c = .ret ∧ ∃ (ys : List (Ln l k)) (x : Ln l k), pre = ys ++ [x] ∧ (∀ y ∈ ys, q.toNat < sl l y.1) ∧ sl l x.1 ≤ q.toNat) ∧ W.cell? ⟨w.heap.size + 1 + 1, 0, none⟩ = some (.int .i64 (yaw pre : Int))) ∧ Below w.heap.size w W))
  (z64 _ (Nat.le_refl _)) (fun c => zy9 (w := w) (B := w2.heap.size) (fun pre : List (Ln l k) => c = .ret ∧ ∃ (ys : List (Ln l k)) (x : Ln l k), pre = ys ++ [x] ∧ (∀ y ∈ ys, q.toNat < sl l y.1) ∧ sl l x.1 ≤ q.toNat) _ (fun pre => .int .i64 (yaw pre : Int)) (by have := HZ2.out; have := HS1.out; omega))
  ⟨fun _ h => absurd h List.not_mem_nil, Below.refl _ _⟩ ?a1 ?assign ?body ?done ?stop
 case assign =>
  intro lo x W K hK
  gi_wp2
  exact hK
 case body =>
  rintro lo pre x W ⟨hp, hB⟩ hlen
  have HP := Lib.hid hp
  have HBW := Lib.hid hB
  have hg := zab G01.out (zab HB2.out hB)
  have c1 := zbc (zam (zac hg H1.out)).1
  obtain ⟨c2, c3⟩ := zam (zac hg H2.out)
  have HC2' : Hid (W.cell? ⟨w.heap.size + 1 + 1, 0, none⟩ = some (.int .i64 0) ∧ W.frozen? ⟨w.heap.size + 1 + 1, 0, none⟩ = false) := ⟨c2, c3⟩
  have HBw : Hid (Below w.heap.size w W) := zab G1.out (zab HB2.out hB)
  obtain ⟨z0, z1, zl⟩ := zai (zac hg H0.out)
  dsimp only at z0
  rw [za0] at z0
  have c0 := zbc z0
  obtain ⟨x, hx⟩ := x
  have hxn : x < n := by have := yf3 HM.out HK.out hx; have := HL.out; omega
  have y2 := zbc (zhm (zbu HBw.out HX.out) (i := x) (by have := HL.out; omega))
  have u1 : (x : Int) < (n : Int) := by omega
  have u2 : (0 : Int) ≤ (x : Int) := by omega
  have HXN := Lib.hid hx
  clear hp hB c2 c3 hlen z0 z1 hg
  by_cases he : sl l x ≤ q.toNat
  ·
   have t1 : decide ((nd l x).slot.toNat ≤ q.toNat) = true := decide_eq_true he
   have t1' : decide (((nd l x).slot.toNat : Int) ≤ (q.toNat : Int)) = true := by rw [decide_eq_true_iff]; unfold sl at he; omega
   have HE := Lib.hid he
   clear he
   gi_wp2
   refine zgo [] (by kernel_rfl) (by kernel_rfl) (by kernel_rfl) (by kernel_rfl) ?_
   repeat (refine zae rfl rfl _ zaf ?_; (first | go_big_quiet_step (fail) | quiet_step (fail)); refine wpQuiet_nil ?_)
   refine za3 ⟨rfl, ?_⟩
   obtain ⟨c2, c3⟩ := HC2'.out
   gi_wp2
   exact ⟨(KeepsOthers.drew W).trans (KeepsOthers.setCell _ _ _), ⟨⟨rfl, pre, ⟨x, HXN.out⟩, rfl, HP.out, HE.out⟩, by rw [zpz]; exact World.cell?_setCell_same' _ _ _ (by show (W.cell? _).isSome = true; rw [HC2'.out.1]; rfl)⟩, (zah HBw.out 1).setCell (p := ⟨w.heap.size + 1 + 1, 0, none⟩) (by simp; omega) _⟩
  ·
   have t1 : decide ((nd l x).slot.toNat ≤ q.toNat) = false := decide_eq_false he
   have t1' : decide (((nd l x).slot.toNat : Int) ≤ (q.toNat : Int)) = false := by rw [decide_eq_false_iff_not]; unfold sl at he; omega
   have HE := Lib.hid he
   clear he
   gi_wp2
   refine zgo [] (by kernel_rfl) (by kernel_rfl) (by kernel_rfl) (by kernel_rfl) ?_
   repeat (refine zae rfl rfl _ zaf ?_; (first | go_big_quiet_step (fail) | quiet_step (fail)); refine wpQuiet_nil ?_)
   refine za3 ⟨rfl, ?_⟩
   gi_wp2
   exact ⟨KeepsOthers.drew W, zah (Below.refl _ _) 1, fun y hy => by
    rcases List.mem_append.1 hy with h | h
    ·
     exact HP.out y h
    ·
     rw [List.mem_singleton] at h; subst h; have := HE.out; show q.toNat < sl l x; omega, zah HBW.out 1⟩
 case done =>
  rintro D ys W hD hys ⟨hp, hB⟩ hK
  have hX : r = -1 := by
   rw [HR.out]
   refine ya5 HM.out q.toNat HK.out fun y hy => ?_
   rw [← hys] at hy
   obtain ⟨z, hz, e⟩ := List.mem_map.1 hy
   rw [← e]
   exact hp z hz
  have HX' := Lib.hid hX
  have HKD := Lib.hid hK
  have hc : W.cell? ⟨w.heap.size + 1 + 1, 0, none⟩ = some (.int .i64 0) ∧ W.frozen? ⟨w.heap.size + 1 + 1, 0, none⟩ = false := zam (zac (zab G01.out (zab HB2.out hB)) H2.out)
  have HC := Lib.hid hc
  obtain ⟨c2, c3⟩ := hc
  have HBw : Hid (Below w.heap.size w W) := zab G1.out (zab HB2.out hB)
  clear hX hp hB hK hys
  go_wp2_with fail
  have hK' := (KeepsOthers.setCell W ⟨w.heap.size + 1 + 1, 0, none⟩ (.int .i64 (-1))).same D _ HKD.out rfl
  have hs := zir hK' (World.cell?_setCell_same' W ⟨w.heap.size + 1 + 1, 0, none⟩ (.int .i64 (-1)) (by rw [HC.out.1]; rfl))
  exact zf6 (v := .int .i64 (-1)) hK' ⟨by simp [results, Tryz.results81, go_sem, hs], by rw [HX'.out], zcu hK' (HBw.out.setCell (p := ⟨w.heap.size + 1 + 1, 0, none⟩) (by simp; omega) _) (by have := HZ2.out; have := HS1.out; omega)⟩
 case stop =>
  rintro D c pre W hD hpre ⟨⟨⟨rfl, ys, x, rfl, ha, hx⟩, hc⟩, hB⟩ hK
  rw [zpz] at hc
  have hX : r = (x.1 : Int) := by
   rw [HR.out]
   obtain ⟨t, ht⟩ := hpre
   rw [List.map_append, List.append_assoc] at ht
   refine yf2 HM.out q.toNat k HK.out (ys.map Subtype.val) t x.1 ht.symm (fun y hy => ?_) hx
   obtain ⟨z, hz, e⟩ := List.mem_map.1 hy
   rw [← e]
   exact ha z hz
  have HX' := Lib.hid hX
  have HBW := Lib.hid hB
  have HKD := Lib.hid hK
  have hs := zir hK hc
  have HD := Lib.hid hD
  clear hX hB ha hx hpre
  gi_wp2
  exact zf6 (v := .int .i64 (x.1 : Int)) HKD.out ⟨by simp [results, Tryz.results81, go_sem, hs], by rw [HX'.out], zcu HKD.out HBW.out (by have := HZ2.out; have := HS1.out; have := HD.out; omega)⟩
theorem yjy (s : SlV) (l : List Nd) (i : Int) (q : UInt64) (w : World) (h : SlE Ene w (sv s) l) :
  Calls Tryz.prog 81 #[.agg (tr ⟨s⟩), .int .i64 i, .int .u64 (q.toNat : Int)] w fun e w' => e = .returned (.int .i64 (atZ l i q.toNat)) ∧ Below w.heap.size w w' := by
 by_cases hk : isT l i = true
 ·
  obtain ⟨hm, hk0, hk1⟩ := zb2.1 hk
  obtain ⟨k', rfl⟩ : ∃ k' : Nat, i = k' := ⟨i.toNat, by omega⟩
  rw [zma hm (by omega)]
  exact z27 s l k' q w h hm (by omega)
 ·
  have hk' : isT l i = false := by simpa using hk
  unfold atZ
  rw [hk', if_neg Bool.false_ne_true]
  exact z8d s l i q w h hk'
end
theorem zw3 (T : Nat) (x : Sn) (s : Sg) (c : Cl) (w : World) (hT : w.heap[T]? = some (.cells (sn x) 40 (0, 0))) (h : LaidS w x s) :
  Calls Tryz.prog 78 #[.agg (cl c), .pointer (some ⟨T, 0, none⟩)] w fun e w' => e = .returned (.agg (rs ⟨0, s.head, false, zcc⟩)) ∧ Below w.heap.size w w' := by
 obtain ⟨W0, hW0⟩ : ∃ W0, W0 = (w.alloc (.cells (cl c) 43)).alloc (.cells (rs zrs) 51) := ⟨_, rfl⟩
 obtain ⟨hB, q0, q1, _⟩ := zc2 w _ _ _ _ W0 hW0
 have A : Hid (Sw w W0 T x s) := Sw.keep ⟨hT, h, Below.refl _ _⟩ hB
 have MC : Hid (W0.heap[w.heap.size]? = some (.cells (cl c) 43 (0, 0))) := q0
 have MR : Hid (W0.heap[w.heap.size + 1]? = some (.cells (rs zrs) 51 (0, 0))) := q1
 have HW := Lib.hid hW0
 clear hW0 hB q0 q1 h hT
 go_enter Tryz.func78, Tryz.ntmps78
 go_upto_region 1 with fail
 rw [← HW.out]
 have z := A.out.zh
 have yw := zau MR.out (zap _)
 go_wp2_with fail
 exact bodyPost_ret (zao Tryz.isAgg51 Tryz.sizeOf51 _ 3 rfl _ _ _ _ rfl (za4 MR.out (zap _) (zap _))) rfl ⟨rfl, zas A.out.g (by omega)⟩
theorem z1z (T : Nat) (x : Sn) (s : Sg) (c : Cl) (w : World) (hT : w.heap[T]? = some (.cells (sn x) 40 (0, 0))) (h : LaidS w x s) :
  Calls Tryz.prog 79 #[.agg (cl c), .pointer (some ⟨T, 0, none⟩)] w fun e w' => e = .returned (.agg (rs ⟨0, zr, false, s.fin⟩)) ∧ Below w.heap.size w w' := by
 obtain ⟨W0, hW0⟩ : ∃ W0, W0 = (w.alloc (.cells (cl c) 43)).alloc (.cells (rs zrs) 51) := ⟨_, rfl⟩
 obtain ⟨hB, q0, q1, _⟩ := zc2 w _ _ _ _ W0 hW0
 have A : Hid (Sw w W0 T x s) := Sw.keep ⟨hT, h, Below.refl _ _⟩ hB
 have MC : Hid (W0.heap[w.heap.size]? = some (.cells (cl c) 43 (0, 0))) := q0
 have MR : Hid (W0.heap[w.heap.size + 1]? = some (.cells (rs zrs) 51 (0, 0))) := q1
 have HW := Lib.hid hW0
 clear hW0 hB q0 q1 h hT
 go_enter Tryz.func79, Tryz.ntmps79
 go_upto_region 1 with fail
 rw [← HW.out]
 have z := A.out.zf
 have yw := zau MR.out (zap _)
 go_wp2_with fail
 exact bodyPost_ret (zao Tryz.isAgg51 Tryz.sizeOf51 _ 3 rfl _ _ _ _ rfl (za4 MR.out (zap _) (zap _))) rfl ⟨rfl, zas A.out.g (by omega)⟩
theorem z1y (T : Nat) (x : Sn) (s : Sg) (c : Cl) (w : World) (hT : w.heap[T]? = some (.cells (sn x) 40 (0, 0))) (h : LaidS w x s) (hm : mayN s = true) :
  Calls Tryz.prog 80 #[.agg (cl c), .pointer (some ⟨T, 0, none⟩)] w fun e w' => e = .returned (.agg (rs (rsOf (askN s 6 c.a c.b c.slot.toNat)))) ∧ Below w.heap.size w w' := by
 obtain ⟨W0, hW0⟩ : ∃ W0, W0 = (w.alloc (.cells (cl c) 43)).alloc (.cells (rs zrs) 51) := ⟨_, rfl⟩
 obtain ⟨hB, q0, q1, _⟩ := zc2 w _ _ _ _ W0 hW0
 have A : Hid (Sw w W0 T x s) := Sw.keep ⟨hT, h, Below.refl _ _⟩ hB
 have MC : Hid (W0.heap[w.heap.size]? = some (.cells (cl c) 43 (0, 0))) := q0
 have MR : Hid (W0.heap[w.heap.size + 1]? = some (.cells (rs zrs) 51 (0, 0))) := q1
 have HW := Lib.hid hW0
 have HF1 := Lib.hid (fun W hh => zeh x.t.n s.t c.a W hh)
 have HAt := Lib.hid (fun i W hh => yjy x.t.n s.t i c.slot W hh)
 have HMy := Lib.hid hm
 obtain ⟨a, ha⟩ : ∃ a, a = zaz s.t c.a := ⟨_, rfl⟩
 obtain ⟨R, hR⟩ : ∃ R, R = rsOf (askN s 6 c.a c.b c.slot.toNat) := ⟨_, rfl⟩
 rw [← hR]
 rw [← ha] at HF1
 have HR := Lib.hid hR
 have HA := Lib.hid ha
 clear hW0 hB q0 q1 h hT hm ha hR
 go_enter Tryz.func80, Tryz.ntmps80
 go_upto_region 1 with fail
 rw [← HW.out]
 have zT := A.out.zT
 have c2 := zqs MC.out
 go_wp2_with fail
 refine (HF1.out _ A.out.l.t).mono ?_
 rintro e w2 ⟨rfl, g⟩
 replace A := Lib.hid (A.out.keep g)
 replace MC := Lib.hid (zac g MC.out)
 replace MR := Lib.hid (zac g MR.out)
 clear g zT c2 HF1
 have q := z3w HMy.out c.a c.b c.slot.toNat
 have hask2 := HR.out
 rcases q with ⟨q1, q2⟩ | ⟨i, q1, q2, q3⟩
 ·
  rw [q2] at hask2
  obtain rfl : a = -1 := HA.out.trans q1
  clear q1 q2
  obtain rfl : R = ⟨5, zr, false, zcc⟩ := by rw [hask2]; rfl
  have yw := zau MR.out (zap _)
  go_wp2_with fail
  exact bodyPost_ret (zao Tryz.isAgg51 Tryz.sizeOf51 _ 3 rfl _ _ _ _ rfl (za4 MR.out (zap _) (zap _))) rfl ⟨rfl, zas A.out.g (by omega)⟩
 ·
  obtain rfl : a = (i : Int) := HA.out.trans q2
  have t1 : decide ((i : Int) = -1) = false := decide_eq_false (by omega)
  have t1b : ((i : Int) == -1) = false := by rw [beq_eq_false_iff_ne]; omega
  have HAi := Lib.hid (HAt.out (i : Int))
  rw [zma (zp7 HMy.out) q1] at HAi
  have zT := A.out.zT
  have c4 := zmj MC.out
  rcases q3 with ⟨q4, q5, _⟩ | ⟨q, q4, q5, _, _, q6⟩
  ·
   rw [q5] at hask2
   rw [q4] at HAi
   clear q1 q2 q4 q5
   go_wp2_with fail
   refine (HAi.out _ A.out.l.t).mono ?_
   rintro e w4 ⟨rfl, g⟩
   replace A := Lib.hid (A.out.keep g)
   replace MC := Lib.hid (zac g MC.out)
   replace MR := Lib.hid (zac g MR.out)
   clear g zT c4
   obtain rfl : R = ⟨8, zr, false, zcc⟩ := by rw [hask2]; rfl
   have yw := zau MR.out (zap _)
   go_wp2_with fail
   exact bodyPost_ret (zao Tryz.isAgg51 Tryz.sizeOf51 _ 3 rfl _ _ _ _ rfl (za4 MR.out (zap _) (zap _))) rfl ⟨rfl, zas A.out.g (by omega)⟩
  ·
   rw [q6] at hask2
   rw [q4] at HAi
   have Q5 := Lib.hid q5
   clear q1 q2 q4 q5 q6
   go_wp2_with fail
   refine (HAi.out _ A.out.l.t).mono ?_
   rintro e w4 ⟨rfl, g⟩
   replace A := Lib.hid (A.out.keep g)
   replace MC := Lib.hid (zac g MC.out)
   replace MR := Lib.hid (zac g MR.out)
   clear g zT c4
   obtain ⟨⟨pt, nt, ct⟩, hst⟩ : ∃ s : SlV, s = x.t.n := ⟨_, rfl⟩
   have hnt := zd8 A.out.l.t
   rw [← hst] at hnt
   have HNt : Hid (s.t.length = nt) := hnt
   have zt := A.out.zt
   rw [← hst, za0] at zt
   have hs := A.out.l.t
   rw [← hst, za0] at hs
   obtain ⟨bq, oq, hpq, _, qq⟩ := zcj hs (by have := Q5.out; omega)
   subst hpq
   have yq := zdf qq (i := q) Q5.out
   have q4 := Q5.out
   rw [HNt.out] at q4
   have i0 : (0 : Int) ≤ (q : Int) := by omega
   have i1 : (q : Int) < (nt : Int) := by omega
   have t2 : decide ((q : Int) = -1) = false := decide_eq_false (by omega)
   have t2b : ((q : Int) == -1) = false := by rw [beq_eq_false_iff_ne]; omega
   clear hst hnt hs qq q4
   obtain rfl : R = ⟨0, (nd s.t q).root, false, zcc⟩ := by rw [hask2]; rfl
   have yw := zau MR.out (zap _)
   go_wp2_with fail
   exact bodyPost_ret (zao Tryz.isAgg51 Tryz.sizeOf51 _ 3 rfl _ _ _ _ rfl (za4 MR.out (zap _) (zap _))) rfl ⟨rfl, zas A.out.g (by omega)⟩
theorem zw2 (T : Nat) (x : Sn) (s : Sg) (c : Cl) (w : World) (hT : w.heap[T]? = some (.cells (sn x) 40 (0, 0))) (h : LaidS w x s) (hm : mayN s = true) :
  Calls Tryz.prog 82 #[.agg (cl c), .pointer (some ⟨T, 0, none⟩)] w fun e w' => e = .returned (.agg (rs (rsOf (askN s 7 c.a c.b c.slot.toNat)))) ∧ Below w.heap.size w w' := by
 obtain ⟨W0, hW0⟩ : ∃ W0, W0 = (w.alloc (.cells (cl c) 43)).alloc (.cells (rs zrs) 51) := ⟨_, rfl⟩
 obtain ⟨hB, q0, q1, _⟩ := zc2 w _ _ _ _ W0 hW0
 have A : Hid (Sw w W0 T x s) := Sw.keep ⟨hT, h, Below.refl _ _⟩ hB
 have MC : Hid (W0.heap[w.heap.size]? = some (.cells (cl c) 43 (0, 0))) := q0
 have MR : Hid (W0.heap[w.heap.size + 1]? = some (.cells (rs zrs) 51 (0, 0))) := q1
 have HW := Lib.hid hW0
 have HF1 := Lib.hid (fun W hh => zeh x.t.n s.t c.a W hh)
 have HF2 := Lib.hid (fun W hh => zeh x.t.n s.t c.b W hh)
 have HAb := Lib.hid (fun i k W hh => zhb x.t.n s.t i k W hh)
 have HMy := Lib.hid hm
 obtain ⟨a, ha⟩ : ∃ a, a = zaz s.t c.a := ⟨_, rfl⟩
 obtain ⟨b, hb⟩ : ∃ b, b = zaz s.t c.b := ⟨_, rfl⟩
 obtain ⟨R, hR⟩ : ∃ R, R = rsOf (askN s 7 c.a c.b c.slot.toNat) := ⟨_, rfl⟩
 rw [← hR]
 rw [← ha] at HF1
 rw [← hb] at HF2
 have HR := Lib.hid hR
 have HA := Lib.hid ha
 have HB := Lib.hid hb
 clear hW0 hB q0 q1 h hT hm ha hb hR
 go_enter Tryz.func82, Tryz.ntmps82
 go_upto_region 1 with fail
 rw [← HW.out]
 have zT := A.out.zT
 have c2 := zqs MC.out
 have c3 := zyf MC.out
 have L0 := fun p : Wd W0.drew => zbb zT (by decide) p
 have L1 := fun p : Wd W0.drew => zbb c2 (by decide) p
 have L2 := fun p : Wd W0.drew => zbb c3 (by decide) p
 clear zT c2 c3
 refine zaj [4, 9] (by kernel_rfl) (by kernel_rfl) (by kernel_rfl) ?_
 repeat (first | (refine zae rfl rfl _ zaf ?_; (first | go_big_quiet_step (fail) | quiet_step (fail)); refine wpQuiet_nil ?_) | refine zag rfl ?_)
 refine zan rfl rfl rfl zdw #[.agg (tr ⟨x.t.n⟩), .agg (rc c.a)] rfl ?_
 refine (HF1.out _ (zad (zah (Below.refl _ _) 1) A.out.l.t)).mono ?_
 rintro e u ⟨rfl, g⟩
 refine ⟨_, rfl, g, ?_⟩
 simp only [Act.put, List.setIfInBounds_toArray, List.set_cons_zero, List.set_cons_succ]
 have GB : Hid (Below W0.heap.size W0 u) := zab (zah (Below.refl _ _) 1) g
 clear g
 repeat (first | (refine zae rfl rfl _ zaf ?_; (first | go_big_quiet_step (fail) | quiet_step (fail)); refine wpQuiet_nil ?_) | refine zag rfl ?_)
 refine zan rfl rfl rfl zdw #[.agg (tr ⟨x.t.n⟩), .agg (rc c.b)] rfl ?_
 refine (HF2.out _ (zad GB.out A.out.l.t)).mono ?_
 rintro e u ⟨rfl, g⟩
 refine ⟨_, rfl, g, ?_⟩
 simp only [Act.put, List.setIfInBounds_toArray, List.set_cons_zero, List.set_cons_succ]
 replace GB : Hid (Below W0.heap.size W0 u) := zab GB.out g
 clear g
 repeat (first | (refine zae rfl rfl _ zaf ?_; (first | go_big_quiet_step (fail) | quiet_step (fail)); refine wpQuiet_nil ?_) | refine zag rfl ?_)
 refine za3 ?_
 clear L0 L1 L2 HF1 HF2
 replace A := Lib.hid (A.out.keep GB.out)
 replace MC := Lib.hid (zac GB.out MC.out)
 replace MR := Lib.hid (zac GB.out MR.out)
 clear GB
 obtain ⟨w2, rfl⟩ : ∃ W : World, W = u := ⟨_, rfl⟩
 have q := zya HMy.out c.a c.b c.slot.toNat
 have hask2 := HR.out
 rcases q with ⟨q1, q2⟩ | ⟨i, k, q1, q2, q3, q4, q5⟩
 ·
  rw [q2] at hask2
  rw [← HA.out, ← HB.out] at q1
  by_cases ha : a = -1
  ·
   subst ha
   clear q1 q2
   obtain rfl : R = ⟨5, zr, false, zcc⟩ := by rw [hask2]; rfl
   have yw := zau MR.out (zap _)
   go_wp2_with fail
   exact bodyPost_ret (zao Tryz.isAgg51 Tryz.sizeOf51 _ 3 rfl _ _ _ _ rfl (za4 MR.out (zap _) (zap _))) rfl ⟨rfl, zas A.out.g (by omega)⟩
  ·
   have t1 : decide (a = -1) = false := decide_eq_false ha
   have t1b : (a == -1) = false := by rw [beq_eq_false_iff_ne]; exact ha
   obtain rfl : b = -1 := by omega
   clear q1 q2 ha
   obtain rfl : R = ⟨5, zr, false, zcc⟩ := by rw [hask2]; rfl
   have yw := zau MR.out (zap _)
   go_wp2_with fail
   exact bodyPost_ret (zao Tryz.isAgg51 Tryz.sizeOf51 _ 3 rfl _ _ _ _ rfl (za4 MR.out (zap _) (zap _))) rfl ⟨rfl, zas A.out.g (by omega)⟩
 ·
  obtain rfl : a = (i : Int) := HA.out.trans q3
  obtain rfl : b = (k : Int) := HB.out.trans q4
  rw [q5] at hask2
  have t1 : decide ((i : Int) = -1) = false := decide_eq_false (by omega)
  have t2 : decide ((k : Int) = -1) = false := decide_eq_false (by omega)
  have t1b : ((i : Int) == -1) = false := by rw [beq_eq_false_iff_ne]; omega
  have t2b : ((k : Int) == -1) = false := by rw [beq_eq_false_iff_ne]; omega
  have HAi := Lib.hid (HAb.out (i : Int) (k : Int))
  rw [zdn (zp7 HMy.out) q1 q2] at HAi
  have zT := A.out.zT
  clear q1 q2 q3 q4 q5
  obtain ⟨d, hd⟩ : ∃ d, d = zat s.t i k := ⟨_, rfl⟩
  rw [← hd] at HAi hask2
  clear hd
  go_wp2_with fail
  refine (HAi.out _ A.out.l.t).mono ?_
  rintro e w4 ⟨rfl, g⟩
  replace A := Lib.hid (A.out.keep g)
  replace MC := Lib.hid (zac g MC.out)
  replace MR := Lib.hid (zac g MR.out)
  clear g zT HAi
  obtain rfl : R = ⟨0, zr, d, zcc⟩ := by rw [hask2]; rfl
  have yw := zau MR.out (zap _)
  go_wp2_with fail
  exact bodyPost_ret (zao Tryz.isAgg51 Tryz.sizeOf51 _ 3 rfl _ _ _ _ rfl (za4 MR.out (zap _) (zap _))) rfl ⟨rfl, zas A.out.g (by omega)⟩
end Go.Proofs.YtkalofboioffiaaGreat
