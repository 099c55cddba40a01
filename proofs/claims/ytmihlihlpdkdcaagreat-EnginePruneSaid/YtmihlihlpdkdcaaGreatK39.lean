import Derived.Test.YtmihlihlpdkdcaaGreatK31
import Derived.Test.YtmihlihlpdkdcaaGreatK36
import Derived.Test.YtmihlihlpdkdcaaGreatK38
import Derived.Test.YtmihlihlpdkdcaaGreatK12
import Derived.Test.YtmihlihlpdkdcaaGreatK14
import Derived.Test.YtmihlihlpdkdcaaGreatK16
namespace Go.Proofs.YtmihlihlpdkdcaaGreat
open Go.RowKit
set_option maxRecDepth 200000
set_option maxHeartbeats 64000000
section
@[local go_sem] theorem yiq (P : Program) (w : World) (a : Addr) (m : Mode) (fn : Fn) (first captured : Array Value) : (store a (.func fn first captured) m).run P w = stored P w a (.func fn first captured) m := run_store P w a _ m rfl
def znd : Array Value := #[.func (.func 82) #[] #[], .func (.func 83) #[] #[], .func (.func 84) #[] #[], .func (.func 85) #[] #[]]
theorem z1i (w : World) : Calls Tryz.prog 52 #[] w fun e w' => e = .returned (.agg znd) ∧ Below w.heap.size w w' := by
 go_enter Tryz.func52, Tryz.ntmps52
 go_wp2_with fail
 exact bodyPost_ret (zcf Tryz.isAgg94 Tryz.sizeOf94 _ 0 rfl _ _ _ _ rfl (zaf (heap_alloc_last w _) rfl)) rfl ⟨rfl, below1⟩
theorem z8v {W : World} {T k : Nat} {v : Value} (h : W.heap[T]? = some (.cells znd 94 (0, 0))) (hv : znd[k]? = some v) : W.cell? ⟨T, k, none⟩ = some v := by
 rw [cell_of_row _ _ _ _ _ _ h]; exact hv
theorem zm6 (k cf : Nat) (hk : k < 4) (hd : znd[k]? = some (.func (.func cf) #[] #[])) (eg : ∀ args w, (callFunc cf args).run Tryz.prog w = .ok (.enter cf args) w) (Tc : Nat) (c : Cl) (x : En) (g : Eg) (B : Nat) (w : World) (F : Eg) (N : Nat) (h : OwnG w B x g) (hBw : B ≤ w.heap.size)
  (hc : w.heap[Tc]? = some (.cells (cl c) 48 (0, 0))) (hck : c.kind = (k : Int)) (hp : ∀ W, Below w.heap.size w W → Calls Tryz.prog cf #[.agg (cl c), .agg (en x)] W (EgErB F N B W)) :
  Calls Tryz.prog 51 #[.agg (en x), .pointer (some ⟨Tc, 0, none⟩)] w (EgErB F N B w) := by
 obtain ⟨W0, hW0⟩ : ∃ W0, W0 = (w.alloc (.cells (en x) 39)).alloc (.cells (en zen) 39) := ⟨_, rfl⟩
 obtain ⟨hB, q0, q2, _⟩ := zd0 w _ _ _ _ W0 hW0
 have A : Hid (Gp w x g (w.heap.size + 1) W0 w.heap.size x g) := zfx h.laid hB q0 ⟨_, q2⟩ (Nat.le_refl _) (by omega) (by omega)
 have HW := Lib.hid hW0
 have HC := Lib.hid hc
 have HCk := Lib.hid hck
 have HBw := Lib.hid hBw
 have HP := Lib.hid hp
 have HDd := Lib.hid hd
 obtain ⟨T, hT⟩ : ∃ T, T = w.heap.size := ⟨_, rfl⟩
 obtain ⟨Q, hQ⟩ : ∃ Q, Q = w.heap.size + 1 := ⟨_, rfl⟩
 have HTQ : Hid (T = w.heap.size ∧ Q = w.heap.size + 1) := ⟨hT, hQ⟩
 rw [← hQ, ← hT] at A
 have i0 : (0 : Int) ≤ (k : Int) := by omega
 have i1 : (k : Int) < 4 := by omega
 have d1 : decide ((k : Int) < 0) = false := decide_eq_false (by omega)
 have d2 : decide ((4 : Int) ≤ (k : Int)) = false := decide_eq_false (by omega)
 have d2' : decide (4 ≤ k) = false := decide_eq_false (by omega)
 clear hW0 hB q0 q2 h hBw hc hck hp hd hk
 go_enter Tryz.func51, Tryz.ntmps51
 go_upto_region 1 with fail
 rw [← HW.out, ← hQ, ← hT]
 clear hT hQ
 go_wp2_with fail
 refine (z1i W0).mono ?_
 rintro e w1 ⟨rfl, gg⟩
 replace A := Lib.hid (A.out.keep gg)
 clear gg
 unfold znd
 go_upto_region 2 with fail
 obtain ⟨w2, hw2⟩ : ∃ w2, w2 = w1.alloc (.cells znd 94) := ⟨_, rfl⟩
 rw [← show w2 = w1.alloc (.cells #[.func (.func 82) #[] #[], .func (.func 83) #[] #[], .func (.func 84) #[] #[], .func (.func 85) #[] #[]] 94) from hw2]
 have gg : Below w1.heap.size w1 w2 := by rw [hw2]; exact below1
 have X5 : Hid (w2.heap[w1.heap.size]? = some (.cells znd 94 (0, 0))) := by show _ = _; rw [hw2]; exact heap_alloc_last _ _
 replace A := Lib.hid (A.out.keep gg)
 obtain ⟨T5, hT5⟩ : ∃ n, n = w1.heap.size := ⟨_, rfl⟩
 rw [← hT5] at X5 ⊢
 clear gg hw2 hT5
 have hc2 := zab A.out.s.bw HC.out
 have zk : w2.cell? ⟨Tc, 0, none⟩ = some (.int .i64 (k : Int)) := by rw [← HCk.out]; exact zdf hc2
 have zc := zaf hc2 (zrj c)
 have z5 := z8v X5.out HDd.out
 have HZ := Lib.hid zk
 have HZc := Lib.hid zc
 have HZ5 := Lib.hid z5
 clear hc2 zc z5
 go_upto_region 4 with fail
 clear zk
 have hwB : B ≤ w2.heap.size := Nat.le_trans HBw.out A.out.s.bw.size
 have Q1 := fun p : Wd w2.drew => za3 HZ.out p
 have Q2 := fun p : Wd w2.drew => za3 HZ5.out p
 have Q3 := fun p : Wd w2.drew => zb8 HZc.out (by decide) p
 have Q4 := fun p : Wd w2.drew => zb8 A.out.s.v.z (by decide) p
 refine zdj B [1, 3, 4, 5] [6, 9] (by kernel_rfl) (by kernel_rfl) (by kernel_rfl) ?_
 repeat (first | (refine zbq rfl rfl rfl hwB ?_; (first | go_big_quiet_step (fail) | quiet_step (fail)); refine wpQuiet_nil ?_) | (refine zfc rfl rfl rfl hwB ?_; (first | go_big_quiet_step (fail) | quiet_step (fail)); refine wpQuiet_nil ?_))
 have HE := Lib.hid (A.out.keep (zap (Below.refl _ _) 1))
 refine z8h rfl rfl rfl rfl eg #[.agg (cl c), .agg (en x)] rfl (by kernel_rfl) ?_
 refine (HP.out w2.drew HE.out.s.bw).mono ?_
 rintro e w3 ⟨y, rfl, ly, gg, fy⟩
 refine ⟨_, rfl, gg, ?_⟩
 simp only [Act.put, List.setIfInBounds_toArray, List.set_cons_zero, List.set_cons_succ]
 have EE := HE.out.eb HBw.out ly gg fy N
 have wr := HE.out.ebw fy
 have oo := Lib.hid (HE.out.ebo fy)
 have HR := Lib.hid EE
 have LR : Hid (B ≤ Q) := Nat.le_trans HBw.out HE.out.lr
 clear ly gg fy EE
 repeat (refine zbq rfl rfl rfl hwB ?_; (first | go_big_quiet_step (fail) | quiet_step (fail)); refine wpQuiet_nil ?_)
 refine zid rfl rfl (stA w3 (.pointer (some ⟨Q, 0, none⟩)) (.agg (en y))) (by go_simp) (zcr (by kernel_rfl) (zav (Below.refl _ _) LR.out)) ?_
 simp only [Act.put]
 refine zbq rfl rfl rfl hwB ?_
 (first | go_big_quiet_step (fail) | quiet_step (fail)); refine wpQuiet_nil ?_
 refine zk4 ?_
 clear Q1 Q2 Q3 Q4 wr hwB
 go_wp2_with fail
 exact bodyPost_ret (zal Tryz.isAgg39 Tryz.sizeOf39 _ 3 4 rfl _ _ _ _ _ rfl rfl oo.out) rfl HR.out
theorem z86 (Tc : Nat) (c : Cl) (x : En) (g : Eg) (B : Nat) (w : World) (h : OwnG w B x g) (hBw : B ≤ w.heap.size)
  (hc : w.heap[Tc]? = some (.cells (cl c) 48 (0, 0))) (hck : c.kind < 0 ∨ 4 ≤ c.kind) :
  Calls Tryz.prog 51 #[.agg (en x), .pointer (some ⟨Tc, 0, none⟩)] w (EgErB g 1 B w) := by
 obtain ⟨W0, hW0⟩ : ∃ W0, W0 = (w.alloc (.cells (en x) 39)).alloc (.cells (en zen) 39) := ⟨_, rfl⟩
 obtain ⟨hB, q0, q2, _⟩ := zd0 w _ _ _ _ W0 hW0
 have A : Hid (Gp w x g (w.heap.size + 1) W0 w.heap.size x g) := zfx h.laid hB q0 ⟨_, q2⟩ (Nat.le_refl _) (by omega) (by omega)
 have HW := Lib.hid hW0
 have HC := Lib.hid hc
 have HBw := Lib.hid hBw
 have HO := Lib.hid h
 obtain ⟨K, hK⟩ : ∃ K, K = c.kind := ⟨_, rfl⟩
 have HK := Lib.hid hK
 rw [← hK] at hck
 obtain ⟨T, hT⟩ : ∃ T, T = w.heap.size := ⟨_, rfl⟩
 obtain ⟨Q, hQ⟩ : ∃ Q, Q = w.heap.size + 1 := ⟨_, rfl⟩
 have HTQ : Hid (T = w.heap.size ∧ Q = w.heap.size + 1) := ⟨hT, hQ⟩
 rw [← hQ, ← hT] at A
 have HCk := Lib.hid hck
 clear hW0 hB q0 q2 h hBw hc hck hK
 go_enter Tryz.func51, Tryz.ntmps51
 go_upto_region 1 with fail
 rw [← HW.out, ← hQ, ← hT]
 clear hT hQ
 go_wp2_with fail
 refine (z1i W0).mono ?_
 rintro e w1 ⟨rfl, gg⟩
 replace A := Lib.hid (A.out.keep gg)
 clear gg
 unfold znd
 go_upto_region 2 with fail
 obtain ⟨w2, hw2⟩ : ∃ w2, w2 = w1.alloc (.cells znd 94) := ⟨_, rfl⟩
 rw [← show w2 = w1.alloc (.cells #[.func (.func 82) #[] #[], .func (.func 83) #[] #[], .func (.func 84) #[] #[], .func (.func 85) #[] #[]] 94) from hw2]
 have gg : Below w1.heap.size w1 w2 := by rw [hw2]; exact below1
 replace A := Lib.hid (A.out.keep gg)
 clear gg hw2
 have zk : w2.cell? ⟨Tc, 0, none⟩ = some (.int .i64 K) := by rw [HK.out]; exact zdf (zab A.out.s.bw HC.out)
 have z := A.out.s.v.z
 have wr := A.out.wrR
 have EE := Lib.hid ((A.out.ret 1).b HBw.out (fun U hU => HO.out.far hU))
 by_cases h1 : K < 0
 ·
  have t1 : decide (K < 0) = true := decide_eq_true h1
  clear h1
  go_wp2_with fail
  exact bodyPost_ret (zal Tryz.isAgg39 Tryz.sizeOf39 _ 3 4 rfl _ _ _ _ _ rfl rfl A.out.out) rfl EE.out
 ·
  have t1 : decide (K < 0) = false := decide_eq_false h1
  have t2 : decide (4 ≤ K) = true := decide_eq_true (HCk.out.resolve_left h1)
  clear h1
  go_wp2_with fail
  exact bodyPost_ret (zal Tryz.isAgg39 Tryz.sizeOf39 _ 3 4 rfl _ _ _ _ _ rfl rfl A.out.out) rfl EE.out
theorem z94 : ∀ args w, (callFunc 51 args).run Tryz.prog w = .ok (.enter 51 args) w := zbb Tryz.func51 (by kernel_rfl) (by kernel_rfl)
theorem ypy (Tc : Nat) (c : Cl) (l : List UInt8) (x : En) (g : Eg) (B : Nat) (w : World) (h : OwnG w B x g) (hBw : B ≤ w.heap.size) (m : MayS' g) (sg : zbz g)
  (hc : w.heap[Tc]? = some (.cells (cl c) 48 (0, 0))) (hl : SlE Ebyt w (sv c.raw) l) :
  Calls Tryz.prog 51 #[.agg (en x), .pointer (some ⟨Tc, 0, none⟩)] w (EgErB (doG g (zcd c.kind l)) (zfs g (zcd c.kind l)) B w) := by
 by_cases h0 : c.kind = 0
 ·
  rw [h0]
  exact zm6 0 _ (by decide) rfl znn Tc c x g B w _ _ h hBw hc h0 fun W b => z5f c l x g B W (h.keep b) (Nat.le_trans hBw b.size) m sg (zac b hl)
 by_cases h1 : c.kind = 1
 ·
  rw [h1]
  exact zm6 1 _ (by decide) rfl zqi Tc c x g B w _ _ h hBw hc h1 fun W b => yge c l x g B W (h.keep b) (Nat.le_trans hBw b.size) m sg (zac b hl)
 by_cases h2 : c.kind = 2
 ·
  rw [h2]
  exact zm6 2 _ (by decide) rfl zn1 Tc c x g B w _ _ h hBw hc h2 fun W b => (z5o c x g W (h.laid.keep b) m sg.j).mono fun _ _ k => k.b (Nat.le_trans hBw b.size) fun U hU => (h.keep b).far hU
 by_cases h3 : c.kind = 3
 ·
  rw [h3]
  exact zm6 3 _ (by decide) rfl zmb Tc c x g B w _ _ h hBw hc h3 fun W b => z0p c x g B W (h.keep b) (Nat.le_trans hBw b.size) m sg.j
 ·
  have e : zcd c.kind l = .other := by unfold zcd; rw [if_neg h0, if_neg h1, if_neg h2, if_neg h3]
  rw [e]
  exact z86 Tc c x g B w h hBw hc (by omega)
theorem zw0 : ∀ args w, (callFunc 67 args).run Tryz.prog w = .ok (.enter 67 args) w := zbb Tryz.func67 (by kernel_rfl) (by kernel_rfl)
theorem yao (Tc : Nat) (b : Bk) (x : En) (g : Eg) (B : Nat) (w : World) (F : Eg) (N : Nat) (h : OwnG w B x g) (hBw : B ≤ w.heap.size) (hc : w.heap[Tc]? = some (.cells (bk b) 69 (0, 0)))
  (hp : ∀ W, Below w.heap.size w W → Calls Tryz.prog 68 #[.agg (en x), .agg (bk b)] W (EgErB F N B W)) :
  Calls Tryz.prog 67 #[.agg (en x), .pointer (some ⟨Tc, 0, none⟩)] w (EgErB F N B w) := by
 obtain ⟨W0, hW0⟩ : ∃ W0, W0 = (w.alloc (.cells (en x) 39)).alloc (.cells (en zen) 39) := ⟨_, rfl⟩
 obtain ⟨hB, q0, q2, _⟩ := zd0 w _ _ _ _ W0 hW0
 have A : Hid (Gp w x g (w.heap.size + 1) W0 w.heap.size x g) := zfx h.laid hB q0 ⟨_, q2⟩ (Nat.le_refl _) (by omega) (by omega)
 have HW := Lib.hid hW0
 have HC := Lib.hid hc
 have HBw := Lib.hid hBw
 have HP := Lib.hid hp
 obtain ⟨T, hT⟩ : ∃ T, T = w.heap.size := ⟨_, rfl⟩
 obtain ⟨Q, hQ⟩ : ∃ Q, Q = w.heap.size + 1 := ⟨_, rfl⟩
 have HTQ : Hid (T = w.heap.size ∧ Q = w.heap.size + 1) := ⟨hT, hQ⟩
 rw [← hQ, ← hT] at A
 clear hW0 hB q0 q2 h hBw hc hp
 go_enter Tryz.func67, Tryz.ntmps67
 go_upto_region 1 with fail
 rw [← HW.out, ← hQ, ← hT]
 clear hT hQ
 have z := A.out.s.v.z
 have zc := zaf (zab A.out.s.bw HC.out) (zhr b)
 go_wp2_with fail
 refine (HP.out _ A.out.s.bw).mono ?_
 rintro e w3 ⟨y, rfl, ly, gg, fy⟩
 have EE := A.out.eb HBw.out ly gg fy N
 have wr := A.out.ebw fy
 have oo := Lib.hid (A.out.ebo fy)
 have HE := Lib.hid EE
 clear ly gg fy z zc EE
 go_wp2_with fail
 exact bodyPost_ret (zal Tryz.isAgg39 Tryz.sizeOf39 _ 3 4 rfl _ _ _ _ _ rfl rfl oo.out) rfl HE.out
theorem z4q : ∀ args w, (callFunc 63 args).run Tryz.prog w = .ok (.enter 63 args) w := zbb Tryz.func63 (by kernel_rfl) (by kernel_rfl)
theorem ykf (Tc : Nat) (b : Aa) (x : En) (g : Eg) (B : Nat) (w : World) (F : Eg) (N : Nat) (h : OwnG w B x g) (hBw : B ≤ w.heap.size) (hc : w.heap[Tc]? = some (.cells (aa b) 62 (0, 0)))
  (hp : ∀ W, Below w.heap.size w W → Calls Tryz.prog 64 #[.agg (en x), .agg (aa b)] W (EgErB F N B W)) :
  Calls Tryz.prog 63 #[.agg (en x), .pointer (some ⟨Tc, 0, none⟩)] w (EgErB F N B w) := by
 obtain ⟨W0, hW0⟩ : ∃ W0, W0 = (w.alloc (.cells (en x) 39)).alloc (.cells (en zen) 39) := ⟨_, rfl⟩
 obtain ⟨hB, q0, q2, _⟩ := zd0 w _ _ _ _ W0 hW0
 have A : Hid (Gp w x g (w.heap.size + 1) W0 w.heap.size x g) := zfx h.laid hB q0 ⟨_, q2⟩ (Nat.le_refl _) (by omega) (by omega)
 have HW := Lib.hid hW0
 have HC := Lib.hid hc
 have HBw := Lib.hid hBw
 have HP := Lib.hid hp
 obtain ⟨T, hT⟩ : ∃ T, T = w.heap.size := ⟨_, rfl⟩
 obtain ⟨Q, hQ⟩ : ∃ Q, Q = w.heap.size + 1 := ⟨_, rfl⟩
 have HTQ : Hid (T = w.heap.size ∧ Q = w.heap.size + 1) := ⟨hT, hQ⟩
 rw [← hQ, ← hT] at A
 clear hW0 hB q0 q2 h hBw hc hp
 go_enter Tryz.func63, Tryz.ntmps63
 go_upto_region 1 with fail
 rw [← HW.out, ← hQ, ← hT]
 clear hT hQ
 have z := A.out.s.v.z
 have zc := zaf (zab A.out.s.bw HC.out) (zfg b)
 go_wp2_with fail
 refine (HP.out _ A.out.s.bw).mono ?_
 rintro e w3 ⟨y, rfl, ly, gg, fy⟩
 have EE := A.out.eb HBw.out ly gg fy N
 have wr := A.out.ebw fy
 have oo := Lib.hid (A.out.ebo fy)
 have HE := Lib.hid EE
 clear ly gg fy z zc EE
 go_wp2_with fail
 exact bodyPost_ret (zal Tryz.isAgg39 Tryz.sizeOf39 _ 3 4 rfl _ _ _ _ _ rfl rfl oo.out) rfl HE.out
theorem zz8 (x : En) (g : Eg) (b : Bk) (w : World) (h : LaidG w x g) (sg : zbz g) :
  Calls Tryz.prog 28 #[.agg (en x), .agg (bk b)] w (EgEr (blkG g b) (ze6 g b) w) := by
 obtain ⟨W0, hW0⟩ : ∃ W0, W0 = ((w.alloc (.cells (en x) 39)).alloc (.cells (bk b) 69)).alloc (.cells (en zen) 39) := ⟨_, rfl⟩
 obtain ⟨hB, q0, q1, q2, _⟩ := zfw w _ _ _ _ _ _ W0 hW0
 have A : Hid (Gp w x g (w.heap.size + 2) W0 w.heap.size x g) := zfx h hB q0 ⟨_, q2⟩ (Nat.le_refl _) (by omega) (by omega)
 have HW := Lib.hid hW0
 have HT : Hid (Calls Tryz.prog 50 #[.agg (en x), .func (.func 67) #[] #[.pointer (some ⟨w.heap.size + 1, 0, none⟩)]] W0 (EgErB (blkG g b) (ze6 g b) W0.heap.size W0)) := by
  refine zsj 67 #[.pointer (some ⟨w.heap.size + 1, 0, none⟩)] zw0 x g W0 A.out.s.l sg _ _ (fun e => ⟨znh (by rw [zn8 e]; decide), zn8 e⟩) fun e y W bl og => ?_
  have m := zdu.1 e
  have hc := zab bl q1
  exact yao (w.heap.size + 1) b y g W0.heap.size W _ _ og bl.size hc fun W2 b2 => zu0 y g b W0.heap.size W2 (og.keep b2) (Nat.le_trans bl.size b2.size) m sg
 obtain ⟨F, hF⟩ : ∃ F, F = (blkG g b : Eg) := ⟨_, rfl⟩
 obtain ⟨N, hN⟩ : ∃ N, N = (ze6 g b : Nat) := ⟨_, rfl⟩
 rw [← hF, ← hN] at HT ⊢
 obtain ⟨T, hT⟩ : ∃ T, T = w.heap.size := ⟨_, rfl⟩
 obtain ⟨U, hU⟩ : ∃ U, U = w.heap.size + 1 := ⟨_, rfl⟩
 obtain ⟨Q, hQ⟩ : ∃ Q, Q = w.heap.size + 2 := ⟨_, rfl⟩
 have HTQ : Hid (T = w.heap.size ∧ U = w.heap.size + 1 ∧ Q = w.heap.size + 2) := ⟨hT, hU, hQ⟩
 rw [← hQ, ← hT] at A
 rw [← hU] at HT
 clear hW0 hB q0 q1 q2 h sg hF hN
 go_enter Tryz.func28, Tryz.ntmps28
 go_upto_region 1 with fail
 rw [← HW.out, ← hQ, ← hU, ← hT]
 clear hT hQ hU
 have z := A.out.s.v.z
 go_wp2_with fail
 refine HT.out.mono ?_
 rintro e w3 ⟨y, rfl, ly, gg, fy⟩
 have EE := A.out.eb (Nat.le_refl _) ly (gg.mono A.out.s.bw.size) fy N
 have wr := A.out.ebw fy
 have oo := Lib.hid (A.out.ebo fy)
 have HE := Lib.hid EE.er
 clear ly gg fy z EE HT
 go_wp2_with fail
 exact bodyPost_ret (zal Tryz.isAgg39 Tryz.sizeOf39 _ 4 5 rfl _ _ _ _ _ rfl rfl oo.out) rfl HE.out
theorem z9e (x : En) (g : Eg) (b : Aa) (w : World) (h : LaidG w x g) (sg : zbz g) :
  Calls Tryz.prog 24 #[.agg (en x), .agg (aa b)] w (EgEr (attG g b) (zft g b) w) := by
 obtain ⟨W0, hW0⟩ : ∃ W0, W0 = ((w.alloc (.cells (en x) 39)).alloc (.cells (aa b) 62)).alloc (.cells (en zen) 39) := ⟨_, rfl⟩
 obtain ⟨hB, q0, q1, q2, _⟩ := zfw w _ _ _ _ _ _ W0 hW0
 have A : Hid (Gp w x g (w.heap.size + 2) W0 w.heap.size x g) := zfx h hB q0 ⟨_, q2⟩ (Nat.le_refl _) (by omega) (by omega)
 have HW := Lib.hid hW0
 have HT : Hid (Calls Tryz.prog 50 #[.agg (en x), .func (.func 63) #[] #[.pointer (some ⟨w.heap.size + 1, 0, none⟩)]] W0 (EgErB (attG g b) (zft g b) W0.heap.size W0)) := by
  refine zsj 63 #[.pointer (some ⟨w.heap.size + 1, 0, none⟩)] z4q x g W0 A.out.s.l sg _ _ (fun e => z6e e) fun e y W bl og => ?_
  have m := zdu.1 e
  have hc := zab bl q1
  exact ykf (w.heap.size + 1) b y g W0.heap.size W _ _ og bl.size hc fun W2 b2 => (zu3 y g b W2 (og.laid.keep b2) m sg.j).mono fun _ _ k => k.b (Nat.le_trans bl.size b2.size) fun U hU => (og.keep b2).far hU
 obtain ⟨F, hF⟩ : ∃ F, F = (attG g b : Eg) := ⟨_, rfl⟩
 obtain ⟨N, hN⟩ : ∃ N, N = (zft g b : Nat) := ⟨_, rfl⟩
 rw [← hF, ← hN] at HT ⊢
 obtain ⟨T, hT⟩ : ∃ T, T = w.heap.size := ⟨_, rfl⟩
 obtain ⟨U, hU⟩ : ∃ U, U = w.heap.size + 1 := ⟨_, rfl⟩
 obtain ⟨Q, hQ⟩ : ∃ Q, Q = w.heap.size + 2 := ⟨_, rfl⟩
 have HTQ : Hid (T = w.heap.size ∧ U = w.heap.size + 1 ∧ Q = w.heap.size + 2) := ⟨hT, hU, hQ⟩
 rw [← hQ, ← hT] at A
 rw [← hU] at HT
 clear hW0 hB q0 q1 q2 h sg hF hN
 go_enter Tryz.func24, Tryz.ntmps24
 go_upto_region 1 with fail
 rw [← HW.out, ← hQ, ← hU, ← hT]
 clear hT hQ hU
 have z := A.out.s.v.z
 go_wp2_with fail
 refine HT.out.mono ?_
 rintro e w3 ⟨y, rfl, ly, gg, fy⟩
 have EE := A.out.eb (Nat.le_refl _) ly (gg.mono A.out.s.bw.size) fy N
 have wr := A.out.ebw fy
 have oo := Lib.hid (A.out.ebo fy)
 have HE := Lib.hid EE.er
 clear ly gg fy z EE HT
 go_wp2_with fail
 exact bodyPost_ret (zal Tryz.isAgg39 Tryz.sizeOf39 _ 4 5 rfl _ _ _ _ _ rfl rfl oo.out) rfl HE.out
theorem zpp (x : En) (g : Eg) (b : Cl) (l : List UInt8) (w : World) (h : LaidG w x g) (sg : zbz g) (hl : SlE Ebyt w (sv b.raw) l) :
  Calls Tryz.prog 17 #[.agg (en x), .agg (cl b)] w (EgErB (doG g (zcd b.kind l)) (zfs g (zcd b.kind l)) w.heap.size w) := by
 obtain ⟨W0, hW0⟩ : ∃ W0, W0 = ((w.alloc (.cells (en x) 39)).alloc (.cells (cl b) 48)).alloc (.cells (en zen) 39) := ⟨_, rfl⟩
 obtain ⟨hB, q0, q1, q2, _⟩ := zfw w _ _ _ _ _ _ W0 hW0
 have A : Hid (Gp w x g (w.heap.size + 2) W0 w.heap.size x g) := zfx h hB q0 ⟨_, q2⟩ (Nat.le_refl _) (by omega) (by omega)
 have HW := Lib.hid hW0
 have HT : Hid (Calls Tryz.prog 50 #[.agg (en x), .func (.func 51) #[] #[.pointer (some ⟨w.heap.size + 1, 0, none⟩)]] W0 (EgErB (doG g (zcd b.kind l)) (zfs g (zcd b.kind l)) W0.heap.size W0)) := by
  refine zsj 51 #[.pointer (some ⟨w.heap.size + 1, 0, none⟩)] z94 x g W0 A.out.s.l sg _ _ (fun e => yuv e _) fun e y W bl og => ?_
  have m := zdu.1 e
  have hc := zab bl q1
  exact ypy (w.heap.size + 1) b l y g W0.heap.size W og bl.size m sg hc (zac bl (zac hB hl))
 obtain ⟨F, hF⟩ : ∃ F, F = (doG g (zcd b.kind l) : Eg) := ⟨_, rfl⟩
 obtain ⟨N, hN⟩ : ∃ N, N = (zfs g (zcd b.kind l) : Nat) := ⟨_, rfl⟩
 rw [← hF, ← hN] at HT ⊢
 obtain ⟨T, hT⟩ : ∃ T, T = w.heap.size := ⟨_, rfl⟩
 obtain ⟨U, hU⟩ : ∃ U, U = w.heap.size + 1 := ⟨_, rfl⟩
 obtain ⟨Q, hQ⟩ : ∃ Q, Q = w.heap.size + 2 := ⟨_, rfl⟩
 have HTQ : Hid (T = w.heap.size ∧ U = w.heap.size + 1 ∧ Q = w.heap.size + 2) := ⟨hT, hU, hQ⟩
 rw [← hQ, ← hT] at A
 rw [← hU] at HT
 clear hW0 hB q0 q1 q2 h sg hF hN hl
 go_enter Tryz.func17, Tryz.ntmps17
 go_upto_region 1 with fail
 rw [← HW.out, ← hQ, ← hU, ← hT]
 clear hT hQ hU
 have z := A.out.s.v.z
 go_wp2_with fail
 refine HT.out.mono ?_
 rintro e w3 ⟨y, rfl, ly, gg, fy⟩
 have EE := A.out.eb (Nat.le_refl _) ly (gg.mono A.out.s.bw.size) fy N
 have wr := A.out.ebw fy
 have oo := Lib.hid (A.out.ebo fy)
 have HE := Lib.hid EE
 clear ly gg fy z EE HT
 go_wp2_with fail
 exact bodyPost_ret (zal Tryz.isAgg39 Tryz.sizeOf39 _ 4 5 rfl _ _ _ _ _ rfl rfl oo.out) rfl HE.out
theorem yct (x : En) (g : Eg) (b : Cl) (l : List UInt8) (w : World) (h : LaidG w x g) (sg : zbz g) (hl : SlE Ebyt w (sv b.raw) l) :
  Calls Tryz.prog 17 #[.agg (en x), .agg (cl b)] w (EgEr (doG g (zcd b.kind l)) (zfs g (zcd b.kind l)) w) := (zpp x g b l w h sg hl).mono fun _ _ k => k.er
theorem z09 (x : En) (g : Eg) (w : World) (h : LaidG w x g) (sg : zbz g) :
  Calls Tryz.prog 25 #[.agg (en x)] w (EgEr (zd2 g) (zee g) w) := by
 obtain ⟨W0, hW0⟩ : ∃ W0, W0 = (w.alloc (.cells (en x) 39)).alloc (.cells (en zen) 39) := ⟨_, rfl⟩
 obtain ⟨hB, q0, q2, _⟩ := zd0 w _ _ _ _ W0 hW0
 have A : Hid (Gp w x g (w.heap.size + 1) W0 w.heap.size x g) := zfx h hB q0 ⟨_, q2⟩ (Nat.le_refl _) (by omega) (by omega)
 have HW := Lib.hid hW0
 have HD := Lib.hid (zpp x g ⟨2, ⟨none, 0, 0⟩, zr, zr, 0⟩ [] W0 A.out.s.l sg (zbt _ _ _ _))
 rw [show doG g (zcd 2 []) = zd2 g from rfl, show zfs g (zcd 2 []) = zee g from rfl] at HD
 obtain ⟨F, hF⟩ : ∃ F, F = (zd2 g : Eg) := ⟨_, rfl⟩
 obtain ⟨N, hN⟩ : ∃ N, N = (zee g : Nat) := ⟨_, rfl⟩
 rw [← hF, ← hN] at HD ⊢
 obtain ⟨T, hT⟩ : ∃ T, T = w.heap.size := ⟨_, rfl⟩
 obtain ⟨Q, hQ⟩ : ∃ Q, Q = w.heap.size + 1 := ⟨_, rfl⟩
 have HTQ : Hid (T = w.heap.size ∧ Q = w.heap.size + 1) := ⟨hT, hQ⟩
 rw [← hQ, ← hT] at A
 clear hW0 hB q0 q2 h sg hF hN
 go_enter Tryz.func25, Tryz.ntmps25
 go_upto_region 1 with fail
 rw [← HW.out, ← hQ, ← hT]
 clear hT hQ
 have z := A.out.s.v.z
 go_wp2_with fail
 refine HD.out.mono ?_
 rintro e w3 ⟨y, rfl, ly, gg, fy⟩
 have EE := A.out.eb (Nat.le_refl _) ly (gg.mono A.out.s.bw.size) fy N
 have wr := A.out.ebw fy
 have oo := Lib.hid (A.out.ebo fy)
 have HE := Lib.hid EE.er
 clear ly gg fy z EE HD
 go_wp2_with fail
 exact bodyPost_ret (zal Tryz.isAgg39 Tryz.sizeOf39 _ 2 3 rfl _ _ _ _ _ rfl rfl oo.out) rfl HE.out
theorem zy3 (x : En) (g : Eg) (w : World) (h : LaidG w x g) (sg : zbz g) :
  Calls Tryz.prog 21 #[.agg (en x)] w (EgEr (prG g) (zjg g) w) := by
 obtain ⟨W0, hW0⟩ : ∃ W0, W0 = (w.alloc (.cells (en x) 39)).alloc (.cells (en zen) 39) := ⟨_, rfl⟩
 obtain ⟨hB, q0, q2, _⟩ := zd0 w _ _ _ _ W0 hW0
 have A : Hid (Gp w x g (w.heap.size + 1) W0 w.heap.size x g) := zfx h hB q0 ⟨_, q2⟩ (Nat.le_refl _) (by omega) (by omega)
 have HW := Lib.hid hW0
 have HD := Lib.hid (zpp x g ⟨3, ⟨none, 0, 0⟩, zr, zr, 0⟩ [] W0 A.out.s.l sg (zbt _ _ _ _))
 rw [show doG g (zcd 3 []) = prG g from rfl, show zfs g (zcd 3 []) = zjg g from rfl] at HD
 obtain ⟨F, hF⟩ : ∃ F, F = (prG g : Eg) := ⟨_, rfl⟩
 obtain ⟨N, hN⟩ : ∃ N, N = (zjg g : Nat) := ⟨_, rfl⟩
 rw [← hF, ← hN] at HD ⊢
 obtain ⟨T, hT⟩ : ∃ T, T = w.heap.size := ⟨_, rfl⟩
 obtain ⟨Q, hQ⟩ : ∃ Q, Q = w.heap.size + 1 := ⟨_, rfl⟩
 have HTQ : Hid (T = w.heap.size ∧ Q = w.heap.size + 1) := ⟨hT, hQ⟩
 rw [← hQ, ← hT] at A
 clear hW0 hB q0 q2 h sg hF hN
 go_enter Tryz.func21, Tryz.ntmps21
 go_upto_region 1 with fail
 rw [← HW.out, ← hQ, ← hT]
 clear hT hQ
 have z := A.out.s.v.z
 go_wp2_with fail
 refine HD.out.mono ?_
 rintro e w3 ⟨y, rfl, ly, gg, fy⟩
 have EE := A.out.eb (Nat.le_refl _) ly (gg.mono A.out.s.bw.size) fy N
 have wr := A.out.ebw fy
 have oo := Lib.hid (A.out.ebo fy)
 have HE := Lib.hid EE.er
 clear ly gg fy z EE HD
 go_wp2_with fail
 exact bodyPost_ret (zal Tryz.isAgg39 Tryz.sizeOf39 _ 2 3 rfl _ _ _ _ _ rfl rfl oo.out) rfl HE.out
end
theorem engC : EngC where
 new := fun r v bal w h hn => yas r v bal w h hn
 may := fun x g w h sg => zwh x g w h sg
 same := fun x y g f w h h' sg _ => z26 x y g f w h h' sg
 block := fun x g b w h sg => zz8 x g b w h sg
 att := fun x g a w h sg => z9e x g a w h sg
 tick := fun x g w h sg => z09 x g w h sg
 prune := fun x g w h sg => zy3 x g w h sg
 call := fun x g c l w h sg hl _ => yct x g c l w h sg hl
 put := yk6
end Go.Proofs.YtmihlihlpdkdcaaGreat
