import Derived.Test.YtkalofboioffiaaGreatQF6
namespace Go.Proofs.YtkalofboioffiaaGreat
open Go.RowKit
set_option maxRecDepth 200000
set_option maxHeartbeats 64000000
section
@[local go_sem] theorem yhz (P : Program) (w : World) (a : Addr) (m : Mode) (fn : Fn) (first captured : Array Value) : (store a (.func fn first captured) m).run P w = stored P w a (.func fn first captured) m := run_store P w a _ m rfl
def zkx : Array Value := #[.func (.func 130) #[] #[], .func (.func 131) #[] #[], .func (.func 132) #[] #[], .func (.func 133) #[] #[]]
theorem zyu (w : World) : Calls Tryz.prog 97 #[] w fun e w' => e = .returned (.agg zkx) ∧ Below w.heap.size w w' := by
 go_enter Tryz.func97, Tryz.ntmps97
 go_wp2_with fail
 exact bodyPost_ret (zax Tryz.isAgg140 Tryz.sizeOf140 _ 0 rfl _ _ _ _ rfl (zag (heap_alloc_last w _) rfl)) rfl ⟨rfl, below1⟩
theorem z5h {W : World} {T k : Nat} {v : Value} (h : W.heap[T]? = some (.cells zkx 140 (0, 0))) (hv : zkx[k]? = some v) : W.cell? ⟨T, k, none⟩ = some v := by
 rw [cell_of_row _ _ _ _ _ _ h]; exact hv
theorem yci (k cf : Nat) (hk : k < 4) (hd : zkx[k]? = some (.func (.func cf) #[] #[])) (eg : ∀ args w, (callFunc cf args).run Tryz.prog w = .ok (.enter cf args) w) (Tc : Nat) (c : Cl) (x : En) (g : Eg) (B : Nat) (w : World) (F : Eg) (N : Nat) (h : OwnG w B x g) (hBw : B ≤ w.heap.size)
  (hc : w.heap[Tc]? = some (.cells (cl c) 43 (0, 0))) (hck : c.kind = (k : Int)) (hp : ∀ W, Below w.heap.size w W → Calls Tryz.prog cf #[.agg (cl c), .agg (en x)] W (EgErB F N B W)) :
  Calls Tryz.prog 96 #[.agg (en x), .pointer (some ⟨Tc, 0, none⟩)] w (EgErB F N B w) := by
 obtain ⟨W0, hW0⟩ : ∃ W0, W0 = (w.alloc (.cells (en x) 38)).alloc (.cells (en zen) 38) := ⟨_, rfl⟩
 obtain ⟨hB, q0, q2, _⟩ := zdb w _ _ _ _ W0 hW0
 have A : Hid (Gp w x g (w.heap.size + 1) W0 w.heap.size x g) := zlc h.laid hB q0 ⟨_, q2⟩ (Nat.le_refl _) (by omega) (by omega)
 have HW := Lib.hid hW0
 have HC := Lib.hid hc
 have HCk := Lib.hid hck
 have HBw := Lib.hid hBw
 have HP := Lib.hid hp
 have HDd := Lib.hid hd
 obtain ⟨T, hT⟩ : ∃ T, T = w.heap.size := ⟨_, rfl⟩
 obtain ⟨Q, hQ⟩ : ∃ Q, Q = w.heap.size + 1 := ⟨_, rfl⟩
 have HTQ : Hid (T = w.heap.size ∧ Q = w.heap.size + 1) := ⟨hT, hQ⟩
 rw [← hQ, ← hT] at A
 have i0 : (0 : Int) ≤ (k : Int) := by omega
 have i1 : (k : Int) < 4 := by omega
 have d1 : decide ((k : Int) < 0) = false := decide_eq_false (by omega)
 have d2 : decide ((4 : Int) ≤ (k : Int)) = false := decide_eq_false (by omega)
 have d2' : decide (4 ≤ k) = false := decide_eq_false (by omega)
 clear hW0 hB q0 q2 h hBw hc hck hp hd hk
 go_enter Tryz.func96, Tryz.ntmps96
 go_upto_region 1 with fail
 rw [← HW.out, ← hQ, ← hT]
 clear hT hQ
 go_wp2_with fail
 refine (zyu W0).mono ?_
 rintro e w1 ⟨rfl, gg⟩
 replace A := Lib.hid (A.out.keep gg)
 clear gg
 unfold zkx
 go_upto_region 2 with fail
 obtain ⟨w2, hw2⟩ : ∃ w2, w2 = w1.alloc (.cells zkx 140) := ⟨_, rfl⟩
 rw [← show w2 = w1.alloc (.cells #[.func (.func 130) #[] #[], .func (.func 131) #[] #[], .func (.func 132) #[] #[], .func (.func 133) #[] #[]] 140) from hw2]
 have gg : Below w1.heap.size w1 w2 := by rw [hw2]; exact below1
 have X5 : Hid (w2.heap[w1.heap.size]? = some (.cells zkx 140 (0, 0))) := by show _ = _; rw [hw2]; exact heap_alloc_last _ _
 replace A := Lib.hid (A.out.keep gg)
 obtain ⟨T5, hT5⟩ : ∃ n, n = w1.heap.size := ⟨_, rfl⟩
 rw [← hT5] at X5 ⊢
 clear gg hw2 hT5
 have hc2 := zab A.out.s.bw HC.out
 have zk : w2.cell? ⟨Tc, 0, none⟩ = some (.int .i64 (k : Int)) := by rw [← HCk.out]; exact zfr hc2
 have zc := zag hc2 (zec c)
 have z5 := z5h X5.out HDd.out
 have HZ := Lib.hid zk
 have HZc := Lib.hid zc
 have HZ5 := Lib.hid z5
 clear hc2 zc z5
 go_upto_region 4 with fail
 clear zk
 have hwB : B ≤ w2.heap.size := Nat.le_trans HBw.out A.out.s.bw.size
 have Q1 := fun p : Wd w2.drew => zay HZ.out p
 have Q2 := fun p : Wd w2.drew => zay HZ5.out p
 have Q3 := fun p : Wd w2.drew => za8 HZc.out (by decide) p
 have Q4 := fun p : Wd w2.drew => za8 A.out.s.v.z (by decide) p
 refine zeu B [1, 3, 4, 5] [6, 9] (by kernel_rfl) (by kernel_rfl) (by kernel_rfl) ?_
 repeat (first | (refine zcf rfl rfl rfl hwB ?_; (first | go_big_quiet_step (fail) | quiet_step (fail)); refine wpQuiet_nil ?_) | (refine zem rfl rfl rfl hwB ?_; (first | go_big_quiet_step (fail) | quiet_step (fail)); refine wpQuiet_nil ?_))
 have HE := Lib.hid (A.out.keep (zak (Below.refl _ _) 1))
 refine z8k rfl rfl rfl rfl eg #[.agg (cl c), .agg (en x)] rfl (by kernel_rfl) ?_
 refine (HP.out w2.drew HE.out.s.bw).mono ?_
 rintro e w3 ⟨y, rfl, ly, gg, fy⟩
 refine ⟨_, rfl, gg, ?_⟩
 simp only [Act.put, List.setIfInBounds_toArray, List.set_cons_zero, List.set_cons_succ]
 have EE := HE.out.eb HBw.out ly gg fy N
 have wr := HE.out.ebw fy
 have oo := Lib.hid (HE.out.ebo fy)
 have HR := Lib.hid EE
 have LR : Hid (B ≤ Q) := Nat.le_trans HBw.out HE.out.lr
 clear ly gg fy EE
 repeat (refine zcf rfl rfl rfl hwB ?_; (first | go_big_quiet_step (fail) | quiet_step (fail)); refine wpQuiet_nil ?_)
 refine zjl rfl rfl (stA w3 (.pointer (some ⟨Q, 0, none⟩)) (.agg (en y))) (by go_simp) (zd5 (by kernel_rfl) (zap (Below.refl _ _) LR.out)) ?_
 simp only [Act.put]
 refine zcf rfl rfl rfl hwB ?_
 (first | go_big_quiet_step (fail) | quiet_step (fail)); refine wpQuiet_nil ?_
 refine zo2 ?_
 clear Q1 Q2 Q3 Q4 wr hwB
 go_wp2_with fail
 exact bodyPost_ret (zbb Tryz.isAgg38 Tryz.sizeOf38 _ 3 4 rfl _ _ _ _ _ rfl rfl oo.out) rfl HR.out
theorem yol (Tc : Nat) (c : Cl) (x : En) (g : Eg) (B : Nat) (w : World) (h : OwnG w B x g) (hBw : B ≤ w.heap.size)
  (hc : w.heap[Tc]? = some (.cells (cl c) 43 (0, 0))) (hck : c.kind < 0 ∨ 4 ≤ c.kind) :
  Calls Tryz.prog 96 #[.agg (en x), .pointer (some ⟨Tc, 0, none⟩)] w (EgErB g 1 B w) := by
 obtain ⟨W0, hW0⟩ : ∃ W0, W0 = (w.alloc (.cells (en x) 38)).alloc (.cells (en zen) 38) := ⟨_, rfl⟩
 obtain ⟨hB, q0, q2, _⟩ := zdb w _ _ _ _ W0 hW0
 have A : Hid (Gp w x g (w.heap.size + 1) W0 w.heap.size x g) := zlc h.laid hB q0 ⟨_, q2⟩ (Nat.le_refl _) (by omega) (by omega)
 have HW := Lib.hid hW0
 have HC := Lib.hid hc
 have HBw := Lib.hid hBw
 have HO := Lib.hid h
 obtain ⟨K, hK⟩ : ∃ K, K = c.kind := ⟨_, rfl⟩
 have HK := Lib.hid hK
 rw [← hK] at hck
 obtain ⟨T, hT⟩ : ∃ T, T = w.heap.size := ⟨_, rfl⟩
 obtain ⟨Q, hQ⟩ : ∃ Q, Q = w.heap.size + 1 := ⟨_, rfl⟩
 have HTQ : Hid (T = w.heap.size ∧ Q = w.heap.size + 1) := ⟨hT, hQ⟩
 rw [← hQ, ← hT] at A
 have HCk := Lib.hid hck
 clear hW0 hB q0 q2 h hBw hc hck hK
 go_enter Tryz.func96, Tryz.ntmps96
 go_upto_region 1 with fail
 rw [← HW.out, ← hQ, ← hT]
 clear hT hQ
 go_wp2_with fail
 refine (zyu W0).mono ?_
 rintro e w1 ⟨rfl, gg⟩
 replace A := Lib.hid (A.out.keep gg)
 clear gg
 unfold zkx
 go_upto_region 2 with fail
 obtain ⟨w2, hw2⟩ : ∃ w2, w2 = w1.alloc (.cells zkx 140) := ⟨_, rfl⟩
 rw [← show w2 = w1.alloc (.cells #[.func (.func 130) #[] #[], .func (.func 131) #[] #[], .func (.func 132) #[] #[], .func (.func 133) #[] #[]] 140) from hw2]
 have gg : Below w1.heap.size w1 w2 := by rw [hw2]; exact below1
 replace A := Lib.hid (A.out.keep gg)
 clear gg hw2
 have zk : w2.cell? ⟨Tc, 0, none⟩ = some (.int .i64 K) := by rw [HK.out]; exact zfr (zab A.out.s.bw HC.out)
 have z := A.out.s.v.z
 have wr := A.out.wrR
 have EE := Lib.hid ((A.out.ret 1).b HBw.out (fun U hU => HO.out.far hU))
 by_cases h1 : K < 0
 ·
  have t1 : decide (K < 0) = true := decide_eq_true h1
  clear h1
  go_wp2_with fail
  exact bodyPost_ret (zbb Tryz.isAgg38 Tryz.sizeOf38 _ 3 4 rfl _ _ _ _ _ rfl rfl A.out.out) rfl EE.out
 ·
  have t1 : decide (K < 0) = false := decide_eq_false h1
  have t2 : decide (4 ≤ K) = true := decide_eq_true (HCk.out.resolve_left h1)
  clear h1
  go_wp2_with fail
  exact bodyPost_ret (zbb Tryz.isAgg38 Tryz.sizeOf38 _ 3 4 rfl _ _ _ _ _ rfl rfl A.out.out) rfl EE.out
theorem z5s : ∀ args w, (callFunc 96 args).run Tryz.prog w = .ok (.enter 96 args) w := zbe Tryz.func96 (by kernel_rfl) (by kernel_rfl)
theorem zuo : ∀ args w, (callFunc 54 args).run Tryz.prog w = .ok (.enter 54 args) w := zbe Tryz.func54 (by kernel_rfl) (by kernel_rfl)
theorem z64 (Tc : Nat) (b : Bk) (x : En) (g : Eg) (B : Nat) (w : World) (F : Eg) (N : Nat) (h : OwnG w B x g) (hBw : B ≤ w.heap.size) (hc : w.heap[Tc]? = some (.cells (bk b) 71 (0, 0)))
  (hp : ∀ W, Below w.heap.size w W → Calls Tryz.prog 55 #[.agg (en x), .agg (bk b)] W (EgErB F N B W)) :
  Calls Tryz.prog 54 #[.agg (en x), .pointer (some ⟨Tc, 0, none⟩)] w (EgErB F N B w) := by
 obtain ⟨W0, hW0⟩ : ∃ W0, W0 = (w.alloc (.cells (en x) 38)).alloc (.cells (en zen) 38) := ⟨_, rfl⟩
 obtain ⟨hB, q0, q2, _⟩ := zdb w _ _ _ _ W0 hW0
 have A : Hid (Gp w x g (w.heap.size + 1) W0 w.heap.size x g) := zlc h.laid hB q0 ⟨_, q2⟩ (Nat.le_refl _) (by omega) (by omega)
 have HW := Lib.hid hW0
 have HC := Lib.hid hc
 have HBw := Lib.hid hBw
 have HP := Lib.hid hp
 obtain ⟨T, hT⟩ : ∃ T, T = w.heap.size := ⟨_, rfl⟩
 obtain ⟨Q, hQ⟩ : ∃ Q, Q = w.heap.size + 1 := ⟨_, rfl⟩
 have HTQ : Hid (T = w.heap.size ∧ Q = w.heap.size + 1) := ⟨hT, hQ⟩
 rw [← hQ, ← hT] at A
 clear hW0 hB q0 q2 h hBw hc hp
 go_enter Tryz.func54, Tryz.ntmps54
 go_upto_region 1 with fail
 rw [← HW.out, ← hQ, ← hT]
 clear hT hQ
 have z := A.out.s.v.z
 have zc := zag (zab A.out.s.bw HC.out) (zj1 b)
 go_wp2_with fail
 refine (HP.out _ A.out.s.bw).mono ?_
 rintro e w3 ⟨y, rfl, ly, gg, fy⟩
 have EE := A.out.eb HBw.out ly gg fy N
 have wr := A.out.ebw fy
 have oo := Lib.hid (A.out.ebo fy)
 have HE := Lib.hid EE
 clear ly gg fy z zc EE
 go_wp2_with fail
 exact bodyPost_ret (zbb Tryz.isAgg38 Tryz.sizeOf38 _ 3 4 rfl _ _ _ _ _ rfl rfl oo.out) rfl HE.out
theorem zyv (x : En) (g : Eg) (b : Bk) (w : World) (h : LaidG w x g) (sg : zcv g) :
  Calls Tryz.prog 26 #[.agg (en x), .agg (bk b)] w (EgEr (blkG g b) (ze9 g b) w) := by
 obtain ⟨W0, hW0⟩ : ∃ W0, W0 = ((w.alloc (.cells (en x) 38)).alloc (.cells (bk b) 71)).alloc (.cells (en zen) 38) := ⟨_, rfl⟩
 obtain ⟨hB, q0, q1, q2, _⟩ := zft w _ _ _ _ _ _ W0 hW0
 have A : Hid (Gp w x g (w.heap.size + 2) W0 w.heap.size x g) := zlc h hB q0 ⟨_, q2⟩ (Nat.le_refl _) (by omega) (by omega)
 have HW := Lib.hid hW0
 have HT : Hid (Calls Tryz.prog 53 #[.agg (en x), .func (.func 54) #[] #[.pointer (some ⟨w.heap.size + 1, 0, none⟩)]] W0 (EgErB (blkG g b) (ze9 g b) W0.heap.size W0)) := by
  refine zy0 54 #[.pointer (some ⟨w.heap.size + 1, 0, none⟩)] zuo x g W0 A.out.s.l sg _ _ (fun e => ⟨zks (by rw [zk8 e]; decide), zk8 e⟩) fun e y W bl og => ?_
  have m := zhx.1 e
  have hc := zab bl q1
  exact z64 (w.heap.size + 1) b y g W0.heap.size W _ _ og bl.size hc fun W2 b2 => z68 y g b W0.heap.size W2 (og.keep b2) (Nat.le_trans bl.size b2.size) m sg
 obtain ⟨F, hF⟩ : ∃ F, F = (blkG g b : Eg) := ⟨_, rfl⟩
 obtain ⟨N, hN⟩ : ∃ N, N = (ze9 g b : Nat) := ⟨_, rfl⟩
 rw [← hF, ← hN] at HT ⊢
 obtain ⟨T, hT⟩ : ∃ T, T = w.heap.size := ⟨_, rfl⟩
 obtain ⟨U, hU⟩ : ∃ U, U = w.heap.size + 1 := ⟨_, rfl⟩
 obtain ⟨Q, hQ⟩ : ∃ Q, Q = w.heap.size + 2 := ⟨_, rfl⟩
 have HTQ : Hid (T = w.heap.size ∧ U = w.heap.size + 1 ∧ Q = w.heap.size + 2) := ⟨hT, hU, hQ⟩
 rw [← hQ, ← hT] at A
 rw [← hU] at HT
 clear hW0 hB q0 q1 q2 h sg hF hN
 go_enter Tryz.func26, Tryz.ntmps26
 go_upto_region 1 with fail
 rw [← HW.out, ← hQ, ← hU, ← hT]
 clear hT hQ hU
 have z := A.out.s.v.z
 go_wp2_with fail
 refine HT.out.mono ?_
 rintro e w3 ⟨y, rfl, ly, gg, fy⟩
 have EE := A.out.eb (Nat.le_refl _) ly (gg.mono A.out.s.bw.size) fy N
 have wr := A.out.ebw fy
 have oo := Lib.hid (A.out.ebo fy)
 have HE := Lib.hid EE.er
 clear ly gg fy z EE HT
 go_wp2_with fail
 exact bodyPost_ret (zbb Tryz.isAgg38 Tryz.sizeOf38 _ 4 5 rfl _ _ _ _ _ rfl rfl oo.out) rfl HE.out
theorem z66 (x : En) (g : Eg) (b : Cl) (F : Eg) (N : Nat) (w : World) (h : LaidG w x g) (sg : zcv g) (no : mayG g = false → F = g ∧ N = 1)
  (hP : ∀ (Tc : Nat) (y : En) (B : Nat) (W : World), Below w.heap.size w W → OwnG W B y g → B ≤ W.heap.size → MayS' g → W.heap[Tc]? = some (.cells (cl b) 43 (0, 0)) → Calls Tryz.prog 96 #[.agg (en y), .pointer (some ⟨Tc, 0, none⟩)] W (EgErB F N B W)) :
  Calls Tryz.prog 52 #[.agg (en x), .agg (cl b)] w (EgErB F N w.heap.size w) := by
 obtain ⟨W0, hW0⟩ : ∃ W0, W0 = ((w.alloc (.cells (en x) 38)).alloc (.cells (cl b) 43)).alloc (.cells (en zen) 38) := ⟨_, rfl⟩
 obtain ⟨hB, q0, q1, q2, _⟩ := zft w _ _ _ _ _ _ W0 hW0
 have A : Hid (Gp w x g (w.heap.size + 2) W0 w.heap.size x g) := zlc h hB q0 ⟨_, q2⟩ (Nat.le_refl _) (by omega) (by omega)
 have HW := Lib.hid hW0
 have HT : Hid (Calls Tryz.prog 53 #[.agg (en x), .func (.func 96) #[] #[.pointer (some ⟨w.heap.size + 1, 0, none⟩)]] W0 (EgErB F N W0.heap.size W0)) :=
  zy0 96 #[.pointer (some ⟨w.heap.size + 1, 0, none⟩)] z5s x g W0 A.out.s.l sg F N no fun e y W bl og => hP (w.heap.size + 1) y W0.heap.size W (zac hB bl) og bl.size (zhx.1 e) (zab bl q1)
 obtain ⟨T, hT⟩ : ∃ T, T = w.heap.size := ⟨_, rfl⟩
 obtain ⟨U, hU⟩ : ∃ U, U = w.heap.size + 1 := ⟨_, rfl⟩
 obtain ⟨Q, hQ⟩ : ∃ Q, Q = w.heap.size + 2 := ⟨_, rfl⟩
 have HTQ : Hid (T = w.heap.size ∧ U = w.heap.size + 1 ∧ Q = w.heap.size + 2) := ⟨hT, hU, hQ⟩
 rw [← hQ, ← hT] at A
 rw [← hU] at HT
 clear hW0 hB q0 q1 q2 h sg no hP
 go_enter Tryz.func52, Tryz.ntmps52
 go_upto_region 1 with fail
 rw [← HW.out, ← hQ, ← hU, ← hT]
 clear hT hQ hU
 have z := A.out.s.v.z
 go_wp2_with fail
 refine HT.out.mono ?_
 rintro e w3 ⟨y, rfl, ly, gg, fy⟩
 have EE := A.out.eb (Nat.le_refl _) ly (gg.mono A.out.s.bw.size) fy N
 have wr := A.out.ebw fy
 have oo := Lib.hid (A.out.ebo fy)
 have HE := Lib.hid EE
 clear ly gg fy z EE HT
 go_wp2_with fail
 exact bodyPost_ret (zbb Tryz.isAgg38 Tryz.sizeOf38 _ 4 5 rfl _ _ _ _ _ rfl rfl oo.out) rfl HE.out
theorem zvx (x : En) (g : Eg) (w : World) (h : LaidG w x g) (sg : zcv g) :
  Calls Tryz.prog 25 #[.agg (en x)] w (EgEr (prG g) (zif g) w) := by
 obtain ⟨W0, hW0⟩ : ∃ W0, W0 = (w.alloc (.cells (en x) 38)).alloc (.cells (en zen) 38) := ⟨_, rfl⟩
 obtain ⟨hB, q0, q2, _⟩ := zdb w _ _ _ _ W0 hW0
 have A : Hid (Gp w x g (w.heap.size + 1) W0 w.heap.size x g) := zlc h hB q0 ⟨_, q2⟩ (Nat.le_refl _) (by omega) (by omega)
 have HW := Lib.hid hW0
 have HD : Hid (Calls Tryz.prog 52 #[.agg (en x), .agg (cl ⟨3, ⟨none, 0, 0⟩, zr, zr, 0⟩)] W0 (EgErB (prG g) (zif g) W0.heap.size W0)) :=
  z66 x g ⟨3, ⟨none, 0, 0⟩, zr, zr, 0⟩ _ _ W0 A.out.s.l sg (fun e => ypk e Cmd.prune) fun Tc y B W _ o hb m hc =>
   yci 3 _ (by decide) rfl zkb Tc _ y g B W _ _ o hb hc rfl fun V b => zyx _ y g B V (o.keep b) (Nat.le_trans hb b.size) m sg.j
 obtain ⟨F, hF⟩ : ∃ F, F = (prG g : Eg) := ⟨_, rfl⟩
 obtain ⟨N, hN⟩ : ∃ N, N = (zif g : Nat) := ⟨_, rfl⟩
 rw [← hF, ← hN] at HD ⊢
 obtain ⟨T, hT⟩ : ∃ T, T = w.heap.size := ⟨_, rfl⟩
 obtain ⟨Q, hQ⟩ : ∃ Q, Q = w.heap.size + 1 := ⟨_, rfl⟩
 have HTQ : Hid (T = w.heap.size ∧ Q = w.heap.size + 1) := ⟨hT, hQ⟩
 rw [← hQ, ← hT] at A
 clear hW0 hB q0 q2 h sg hF hN
 go_enter Tryz.func25, Tryz.ntmps25
 go_upto_region 1 with fail
 rw [← HW.out, ← hQ, ← hT]
 clear hT hQ
 have z := A.out.s.v.z
 go_wp2_with fail
 refine HD.out.mono ?_
 rintro e w3 ⟨y, rfl, ly, gg, fy⟩
 have EE := A.out.eb (Nat.le_refl _) ly (gg.mono A.out.s.bw.size) fy N
 have wr := A.out.ebw fy
 have oo := Lib.hid (A.out.ebo fy)
 have HE := Lib.hid EE.er
 clear ly gg fy z EE HD
 go_wp2_with fail
 exact bodyPost_ret (zbb Tryz.isAgg38 Tryz.sizeOf38 _ 2 3 rfl _ _ _ _ _ rfl rfl oo.out) rfl HE.out
end
end Go.Proofs.YtkalofboioffiaaGreat
