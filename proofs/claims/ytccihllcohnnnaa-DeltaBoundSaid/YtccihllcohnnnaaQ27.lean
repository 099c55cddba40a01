/-
  What is asked of package delta's functions, and of stake's, vote's and tree's beside it (contracts, by name); the laws' own example.
-/
import Derived.Test.YtccihllcohnnnaaQ24
import Derived.Test.YtccihllcohnnnaaQ25
import Derived.Test.YtccihllcohnnnaaQ26
import Derived.Deep.Cut
import Derived.Deep.CutRange
import Derived.Deep.RegionLaw
namespace Go.Proofs.Ytccihllcohnnnaa
open Go.RowKit
set_option maxRecDepth 100000

structure DeltaC : Prop where
  own : ∀ (s t : SlV) (u : Value) (l : List Nd) (v : Vt) (bal : List UInt64) (w : World), SlE Ene w (sv s) l → SlE Elt w (sv t) v.l → SlE Enum w u bal → Calls Try.prog 10 #[.agg (tr ⟨s⟩), .agg (vo ⟨t, v.out⟩), u] w (NumsIs (ownL l v bal) (fitB l v bal) w)
  weights : ∀ (s t : SlV) (u : Value) (l : List Nd) (v : Vt) (bal : List UInt64) (w : World), SlE Ene w (sv s) l → SlE Elt w (sv t) v.l → SlE Enum w u bal → Calls Try.prog 12 #[.agg (tr ⟨s⟩), .agg (vo ⟨t, v.out⟩), u] w (NumsIs (wtsL l v bal) (fitB l v bal) w)
  of : ∀ (s t t' : SlV) (u : Value) (l : List Nd) (was is : Vt) (bal : List UInt64) (w : World), SlE Ene w (sv s) l → SlE Elt w (sv t) was.l → SlE Elt w (sv t') is.l → SlE Enum w u bal → Calls Try.prog 14 #[.agg (tr ⟨s⟩), .agg (vo ⟨t, was.out⟩), .agg (vo ⟨t', is.out⟩), u] w (TwoOk (plusL l was is bal) (minusL l was is bal) (ofB l was is bal) w)
structure BesideC : Prop where
  new : ∀ (n : Int) (w : World), Calls Try.prog 23 #[.int .i64 n] w (VoOk (newV n) (newOkV n) w)
  put : ∀ (s : SlV) (v : Vt) (i : Int) (r : Rt) (ep : UInt64) (w : World), SlE Elt w (sv s) v.l → v.l.length ≤ 1000 → Calls Try.prog 22 #[.agg (vo ⟨s, v.out⟩), .int .i64 i, .agg (rc r), .int .u64 (ep.toNat : Int)] w (VoEr (putV v i r ep) (putVk v i r ep) (putVe v i) w)
  bit : ∀ (v : Int) (w : World), Calls Try.prog 19 #[.int .i64 v] w fun e w' => e = .returned (.int .u64 (bitN v : Int)) ∧ Below w.heap.size w w'
  ofS : ∀ (u : Value) (bal : List UInt64) (mask : UInt64) (w : World), SlE Enum w u bal → Calls Try.prog 21 #[u, .int .u64 (mask.toNat : Int)] w fun e w' => e = .returned (.int .u64 (ofS bal mask : Int)) ∧ Below w.heap.size w w'
  total : ∀ (u : Value) (bal : List UInt64) (w : World), SlE Enum w u bal → Calls Try.prog 20 #[u] w fun e w' => e = .returned (.int .u64 (totS bal : Int)) ∧ Below w.heap.size w w'
  find : ∀ (s : SlV) (l : List Nd) (r : Rt) (w : World), SlE Ene w (sv s) l → Calls Try.prog 18 #[.agg (tr ⟨s⟩), .agg (rc r)] w fun e w' => e = .returned (.int .i64 (findT l r)) ∧ Below w.heap.size w w'
  pass : PassC
theorem enters_deltaOf : ∀ args w, (callFunc 14 args).run Try.prog w = .ok (.enter 14 args) w := entersE Try.func14 (by kernel_rfl) (by kernel_rfl)
theorem enters_deltaOwn : ∀ args w, (callFunc 10 args).run Try.prog w = .ok (.enter 10 args) w := entersE Try.func10 (by kernel_rfl) (by kernel_rfl)
theorem enters_deltaWeights : ∀ args w, (callFunc 12 args).run Try.prog w = .ok (.enter 12 args) w := entersE Try.func12 (by kernel_rfl) (by kernel_rfl)
theorem enters_voteNew14 : ∀ args w, (callFunc 23 args).run Try.prog w = .ok (.enter 23 args) w := entersE Try.func23 (by kernel_rfl) (by kernel_rfl)
theorem enters_votePut14 : ∀ args w, (callFunc 22 args).run Try.prog w = .ok (.enter 22 args) w := entersE Try.func22 (by kernel_rfl) (by kernel_rfl)
theorem enters_stakeBit14 : ∀ args w, (callFunc 19 args).run Try.prog w = .ok (.enter 19 args) w := entersE Try.func19 (by kernel_rfl) (by kernel_rfl)
theorem enters_stakeOf14 : ∀ args w, (callFunc 21 args).run Try.prog w = .ok (.enter 21 args) w := entersE Try.func21 (by kernel_rfl) (by kernel_rfl)
theorem enters_stakeTotal14 : ∀ args w, (callFunc 20 args).run Try.prog w = .ok (.enter 20 args) w := entersE Try.func20 (by kernel_rfl) (by kernel_rfl)
theorem enters_treeFind14 : ∀ args w, (callFunc 18 args).run Try.prog w = .ok (.enter 18 args) w := entersE Try.func18 (by kernel_rfl) (by kernel_rfl)
/-- Votes that are answered, in a new variable. -/
theorem vw_new {w W : World} {s : SlV} {v : Vt} (g : Below w.heap.size w W) (h : SlE Elt W (sv s) v.l) : Vw w (W.alloc (.cells (vo ⟨s, v.out⟩) 28)) W.heap.size s v := ⟨heap_alloc_last W _, slE_keep below1 h, belowT g below1⟩
def dx1 : Vt := newV 1
def dx2 : Vt := putV dx1 0 r2 1
def dx3 : Vt := putV dx2 0 r3 2
theorem delta_ex : newOkV 1 = true ∧ putVk dx1 0 r2 1 = 1 ∧ putVe dx1 0 = 0 ∧ putVk dx2 0 r3 2 = 1 ∧ putVe dx2 0 = 0 ∧ dx1.l.length = 1 ∧ dx2.l.length = 1 ∧ dx3.l.length = 1 := by decide +kernel
theorem delta_ex2 : ofB forkL dx2 dx3 [3] = true ∧ plusL forkL dx2 dx3 [3] = [0, 0, 3] ∧ minusL forkL dx2 dx3 [3] = [0, 3, 0] ∧ fitB forkL dx3 [3] = true ∧ wtsL forkL dx3 [3] = [3, 0, 3] := by decide +kernel
def AwA (W : World) (p q k : Value) (wx : World) : Prop := k = .bool true ∧ SlE Enum wx p [0, 0, 3] ∧ SlE Enum wx q [0, 3, 0] ∧ Below W.heap.size W wx
def AwB (W : World) (p k : Value) (wx : World) : Prop := k = .bool true ∧ SlE Enum wx p [3, 0, 3] ∧ Below W.heap.size W wx
theorem one3 (w : World) (b : Nat) (hb : b = w.heap.size) : SlE Enum (w.alloc (.cells #[.int .u64 3] 26)) (.slice (some ⟨b, 0, none⟩) 1 1) [3] := nums_one w (v := 3) (by decide) b hb
theorem lit3 (w : World) (x y z : Nat) (hx : x < 18446744073709551616) (hy : y < 18446744073709551616) (hz : z < 18446744073709551616) (b : Nat) (hb : b = w.heap.size) :
    SlE Enum (w.alloc (.cells #[.int .u64 (x : Int), .int .u64 (y : Int), .int .u64 (z : Int)] 26)) (.slice (some ⟨b, 0, none⟩) 3 3) [UInt64.ofNat x, UInt64.ofNat y, UInt64.ofNat z] :=
  slE_lit w _ 3 _ _ b rfl hb (by simp [cellsE, Enum, num_nat hx, num_nat hy, num_nat hz])

set_option maxRecDepth 100000 in
set_option maxHeartbeats 16000000 in
theorem awake_any14 (H : DeltaC) (H' : BesideC) (w : World) : Calls Try.prog 9 #[] w fun e w' => e = .returned (.bool true) ∧ Below w.heap.size w w' := by
  obtain ⟨x1, x2, x3, x4, x5, x6, x7, x8⟩ := delta_ex
  obtain ⟨y1, y2, y3, y4, y5⟩ := delta_ex2
  have HN := Lib.hid (H'.new 1 w)
  have HP1 : Hid (∀ (s : SlV) (W : World), SlE Elt W (sv s) dx1.l → Calls Try.prog 22 #[.agg (vo ⟨s, dx1.out⟩), .int .i64 0, .agg (rc r2), .int .u64 1] W (VoEr (putV dx1 0 r2 1) (putVk dx1 0 r2 1) (putVe dx1 0) W)) := fun s W h => H'.put s dx1 0 r2 1 W h (by omega)
  have HP2 : Hid (∀ (s : SlV) (W : World), SlE Elt W (sv s) dx2.l → Calls Try.prog 22 #[.agg (vo ⟨s, dx2.out⟩), .int .i64 0, .agg (rc r3), .int .u64 2] W (VoEr (putV dx2 0 r3 2) (putVk dx2 0 r3 2) (putVe dx2 0) W)) := fun s W h => H'.put s dx2 0 r3 2 W h (by omega)
  have HO := Lib.hid (fun (s t t' : SlV) (u : Value) W (h : SlE Ene W (sv s) forkL) (h1 : SlE Elt W (sv t) dx2.l) (h2 : SlE Elt W (sv t') dx3.l) (h3 : SlE Enum W u [3]) => H.of s t t' u forkL dx2 dx3 [3] W h h1 h2 h3)
  have HWt := Lib.hid (fun (s t : SlV) (u : Value) W (h : SlE Ene W (sv s) forkL) (h1 : SlE Elt W (sv t) dx3.l) (h3 : SlE Enum W u [3]) => H.weights s t u forkL dx3 [3] W h h1 h3)
  rw [x1, show newV 1 = dx1 from rfl] at HN
  rw [x2, x3, show putV dx1 0 r2 1 = dx2 from rfl] at HP1
  rw [x4, x5, show putV dx2 0 r3 2 = dx3 from rfl] at HP2
  rw [y1, y2, y3] at HO
  rw [y4, y5] at HWt
  have HSm : Hid (∀ (v u : Value) (a : List UInt64) (W : World), SlE Enum W v a → SlE Enum W u a → a.length = 3 → Calls Try.prog 16 #[v, u] W fun e w' => e = .returned (.bool true) ∧ Below W.heap.size W w') := fun v u a W h h' hl => by
    have := ref08Same v u a a W h h' (by omega)
    rwa [decide_eq_true rfl] at this
  clear x1 x2 x3 x4 x5 x6 x7 x8 y1 y2 y3 y4 y5 H H'
  generalize dx1 = V1 at *
  generalize dx2 = V2 at *
  generalize dx3 = V3 at *
  go_enter Try.func9, Try.ntmps9
  go_wp2_with fail
  refine HN.out.mono ?_
  rintro e w1 ⟨s1, rfl, h1, g1⟩
  have A := Lib.hid (vw_new g1 h1)
  clear h1 g1
  go_wp2_with fail
  refine (HP1.out _ _ A.out.s).mono ?_
  rintro e w2 ⟨s2, rfl, h2, g2⟩
  have B := Lib.hid (vw_new (belowT A.out.g g2) h2)
  clear h2 g2 A
  go_wp2_with fail
  refine (HP2.out _ _ B.out.s).mono ?_
  rintro e w3 ⟨s3, rfl, h3, g3⟩
  have C := Lib.hid (vw_new (belowT B.out.g g3) h3)
  replace B := Lib.hid (B.out.keep (W' := w3.alloc (.cells (vo ⟨s3, V3.out⟩) 28)) (belowT g3 below1))
  clear h3 g3
  go_upto_region 4 with fail
  obtain ⟨W3, hW3⟩ : ∃ W3, W3 = w3.alloc (.cells (vo ⟨s3, V3.out⟩) 28) := ⟨_, rfl⟩
  rw [← hW3] at B C ⊢
  clear hW3
  go_cut [9, 10, 11] from 35 to 43 (fun p q k wx => AwA W3 p q k wx)
  case first =>
    have hwB : W3.heap.size ≤ W3.drew.heap.size := Nat.le_refl _
    have Q0 := wdB_ld (B := W3.heap.size) B.out.z1 (Array.getElem?_eq_some_iff.1 B.out.box).1
    have Q1 := wdB_ld (B := W3.heap.size) C.out.z1 (Array.getElem?_eq_some_iff.1 C.out.box).1
    refine wp_region_G W3.heap.size [] [0, 3, 4] (by kernel_rfl) ?_
    refine GX.take2 1 rfl rfl rfl (by kernel_rfl) (by kernel_rfl) (by kernel_rfl) rfl hwB ?_
    (first | go_big_quiet_step (fail) | quiet_step (fail)); refine wpQuiet_nil ?_
    refine GX.take2 2 rfl rfl rfl (by kernel_rfl) (by kernel_rfl) (by kernel_rfl) rfl hwB ?_
    (first | go_big_quiet_step (fail) | quiet_step (fail)); refine wpQuiet_nil ?_
    refine GX.branch2 0 3 (by kernel_rfl) ?_ ?_
    · refine xOp_call rfl rfl rfl rfl enters_fork #[] rfl ?_
      refine (fork _).mono ?_
      rintro e w4 ⟨sf, rfl, hs, g4⟩
      refine ⟨_, rfl, g4, ?_⟩
      simp only [Act.put, List.setIfInBounds_toArray, List.set_cons_zero, List.set_cons_succ]
      have g0 : Below W3.heap.size W3 w4 := belowT (belowD (Below.refl _ _) 1) g4
      refine GX.branch1 3 (by kernel_rfl) ?_
      refine xOp_eff rfl rfl rfl (.slice (some ⟨w4.heap.size, 0, none⟩) 1 1) (w4.alloc (.cells #[.int .u64 3] 26)) (by go_simp) (relE_lq below1) ?_
      simp only [Act.put, List.setIfInBounds_toArray, List.set_cons_zero, List.set_cons_succ]
      have hl := one3 w4 _ rfl
      have hf := slE_keep (below1 (o := (.cells #[.int .u64 3] 26))) hs
      have g5 := belowT g0 (below1 (o := (.cells #[.int .u64 3] 26)))
      obtain ⟨W5, hW5⟩ : ∃ W, W = w4.alloc (.cells #[.int .u64 3] 26) := ⟨_, rfl⟩
      rw [← hW5] at hl hf g5 ⊢
      clear hW5 hs g4 g0
      refine GX.branch1 4 (by kernel_rfl) ?_
      refine xOp_call rfl rfl rfl rfl enters_deltaOf #[.agg (tr ⟨sf⟩), .agg (vo ⟨s2, V2.out⟩), .agg (vo ⟨s3, V3.out⟩), .slice (some ⟨w4.heap.size, 0, none⟩) 1 1] rfl ?_
      refine (HO.out sf s2 s3 _ W5 hf (slE_keep g5 B.out.s) (slE_keep g5 C.out.s) hl).mono ?_
      rintro e w6 ⟨u, v, rfl, hu, hv, g6⟩
      refine ⟨_, rfl, g6, ?_⟩
      simp only [Act.put, List.setIfInBounds_toArray, List.set_cons_zero, List.set_cons_succ]
      refine GX.take2 5 rfl rfl rfl (by kernel_rfl) (by kernel_rfl) (by kernel_rfl) rfl hwB ?_
      (first | go_big_quiet_step (fail) | quiet_step (fail)); refine wpQuiet_nil ?_
      refine GX.take2 6 rfl rfl rfl (by kernel_rfl) (by kernel_rfl) (by kernel_rfl) rfl hwB ?_
      (first | go_big_quiet_step (fail) | quiet_step (fail)); refine wpQuiet_nil ?_
      refine GX.take2 7 rfl rfl rfl (by kernel_rfl) (by kernel_rfl) (by kernel_rfl) rfl hwB ?_
      (first | go_big_quiet_step (fail) | quiet_step (fail)); refine wpQuiet_nil ?_
      refine GX.take2 8 rfl rfl rfl (by kernel_rfl) (by kernel_rfl) (by kernel_rfl) rfl hwB ?_
      (first | go_big_quiet_step (fail) | quiet_step (fail)); refine wpQuiet_nil ?_
      refine GX.take2 9 rfl rfl rfl (by kernel_rfl) (by kernel_rfl) (by kernel_rfl) rfl hwB ?_
      (first | go_big_quiet_step (fail) | quiet_step (fail)); refine wpQuiet_nil ?_
      refine GX.take2 10 rfl rfl rfl (by kernel_rfl) (by kernel_rfl) (by kernel_rfl) rfl hwB ?_
      (first | go_big_quiet_step (fail) | quiet_step (fail)); refine wpQuiet_nil ?_
      refine GX.take2 11 rfl rfl rfl (by kernel_rfl) (by kernel_rfl) (by kernel_rfl) rfl hwB ?_
      (first | go_big_quiet_step (fail) | quiet_step (fail)); refine wpQuiet_nil ?_
      refine GX.nil (by kernel_rfl) ?_
      have HR : Hid (AwA W3 u v (.bool true) w6) := ⟨rfl, slE_keep (Below.refl _ _) hu, hv, belowT g5 g6⟩
      clear hwB Q0 Q1
      go_wp2_with fail
      go_meet
      exact HR.out
    · refine xOp_eff rfl rfl rfl (.slice (some ⟨W3.heap.size, 0, none⟩) 1 1) (W3.drew.alloc (.cells #[.int .u64 3] 26)) (by go_simp) (relE_lq below1) ?_
      simp only [Act.put, List.setIfInBounds_toArray, List.set_cons_zero, List.set_cons_succ]
      have hl0 := one3 W3.drew _ rfl
      have g0 : Below W3.heap.size W3 (W3.drew.alloc (.cells #[.int .u64 3] 26)) := belowT (belowD (Below.refl _ _) 1) below1
      obtain ⟨U4, hW4⟩ : ∃ W, W = W3.drew.alloc (.cells #[.int .u64 3] 26) := ⟨_, rfl⟩
      rw [← hW4] at hl0 g0 ⊢
      clear hW4
      refine GX.branch1 0 (by kernel_rfl) ?_
      refine xOp_call rfl rfl rfl rfl enters_fork #[] rfl ?_
      refine (fork _).mono ?_
      rintro e W5 ⟨sf, rfl, hf, g4⟩
      refine ⟨_, rfl, g4, ?_⟩
      simp only [Act.put, List.setIfInBounds_toArray, List.set_cons_zero, List.set_cons_succ]
      have hl := slE_keep g4 hl0
      have g5 : Below W3.heap.size W3 W5 := belowT g0 g4
      clear hl0 g4 g0
      refine GX.branch1 4 (by kernel_rfl) ?_
      refine xOp_call rfl rfl rfl rfl enters_deltaOf #[.agg (tr ⟨sf⟩), .agg (vo ⟨s2, V2.out⟩), .agg (vo ⟨s3, V3.out⟩), .slice (some ⟨W3.drew.heap.size, 0, none⟩) 1 1] rfl ?_
      refine (HO.out sf s2 s3 _ W5 hf (slE_keep g5 B.out.s) (slE_keep g5 C.out.s) hl).mono ?_
      rintro e w6 ⟨u, v, rfl, hu, hv, g6⟩
      refine ⟨_, rfl, g6, ?_⟩
      simp only [Act.put, List.setIfInBounds_toArray, List.set_cons_zero, List.set_cons_succ]
      refine GX.take2 5 rfl rfl rfl (by kernel_rfl) (by kernel_rfl) (by kernel_rfl) rfl hwB ?_
      (first | go_big_quiet_step (fail) | quiet_step (fail)); refine wpQuiet_nil ?_
      refine GX.take2 6 rfl rfl rfl (by kernel_rfl) (by kernel_rfl) (by kernel_rfl) rfl hwB ?_
      (first | go_big_quiet_step (fail) | quiet_step (fail)); refine wpQuiet_nil ?_
      refine GX.take2 7 rfl rfl rfl (by kernel_rfl) (by kernel_rfl) (by kernel_rfl) rfl hwB ?_
      (first | go_big_quiet_step (fail) | quiet_step (fail)); refine wpQuiet_nil ?_
      refine GX.take2 8 rfl rfl rfl (by kernel_rfl) (by kernel_rfl) (by kernel_rfl) rfl hwB ?_
      (first | go_big_quiet_step (fail) | quiet_step (fail)); refine wpQuiet_nil ?_
      refine GX.take2 9 rfl rfl rfl (by kernel_rfl) (by kernel_rfl) (by kernel_rfl) rfl hwB ?_
      (first | go_big_quiet_step (fail) | quiet_step (fail)); refine wpQuiet_nil ?_
      refine GX.take2 10 rfl rfl rfl (by kernel_rfl) (by kernel_rfl) (by kernel_rfl) rfl hwB ?_
      (first | go_big_quiet_step (fail) | quiet_step (fail)); refine wpQuiet_nil ?_
      refine GX.take2 11 rfl rfl rfl (by kernel_rfl) (by kernel_rfl) (by kernel_rfl) rfl hwB ?_
      (first | go_big_quiet_step (fail) | quiet_step (fail)); refine wpQuiet_nil ?_
      refine GX.nil (by kernel_rfl) ?_
      have HR : Hid (AwA W3 u v (.bool true) w6) := ⟨rfl, slE_keep (Below.refl _ _) hu, hv, belowT g5 g6⟩
      clear hwB Q0 Q1
      go_wp2_with fail
      go_meet
      exact HR.out
  case rest =>
    obtain ⟨rfl, hu, hv, g⟩ := hcut
    obtain ⟨pu, cu, rfl⟩ := slE_len hu rfl
    obtain ⟨pv, cv, rfl⟩ := slE_len hv rfl
    replace C := Lib.hid (C.out.keep g)
    have HU := Lib.hid hu
    have HV := Lib.hid hv
    clear hu hv g B
    obtain ⟨W4, rfl⟩ : ∃ W, W = wc := ⟨_, rfl⟩
    go_upto_region 5 with fail
    go_cut [12, 13] from 44 to 50 (fun p k wx => AwB W4 p k wx)
    case first =>
      have hwB : W4.heap.size ≤ W4.drew.heap.size := Nat.le_refl _
      have Q0 := wdB_ld (B := W4.heap.size) C.out.z1 (Array.getElem?_eq_some_iff.1 C.out.box).1
      refine wp_region_G W4.heap.size [] [0, 2, 3] (by kernel_rfl) ?_
      refine GX.take2 1 rfl rfl rfl (by kernel_rfl) (by kernel_rfl) (by kernel_rfl) rfl hwB ?_
      (first | go_big_quiet_step (fail) | quiet_step (fail)); refine wpQuiet_nil ?_
      refine GX.branch2 0 2 (by kernel_rfl) ?_ ?_
      · refine xOp_call rfl rfl rfl rfl enters_fork #[] rfl ?_
        refine (fork _).mono ?_
        rintro e w4 ⟨sf, rfl, hs, g4⟩
        refine ⟨_, rfl, g4, ?_⟩
        simp only [Act.put, List.setIfInBounds_toArray, List.set_cons_zero, List.set_cons_succ]
        have g0 : Below W4.heap.size W4 w4 := belowT (belowD (Below.refl _ _) 1) g4
        refine GX.branch1 2 (by kernel_rfl) ?_
        refine xOp_eff rfl rfl rfl (.slice (some ⟨w4.heap.size, 0, none⟩) 1 1) (w4.alloc (.cells #[.int .u64 3] 26)) (by go_simp) (relE_lq below1) ?_
        simp only [Act.put, List.setIfInBounds_toArray, List.set_cons_zero, List.set_cons_succ]
        have hl := one3 w4 _ rfl
        have hf := slE_keep (below1 (o := (.cells #[.int .u64 3] 26))) hs
        have g5 := belowT g0 (below1 (o := (.cells #[.int .u64 3] 26)))
        obtain ⟨W5, hW5⟩ : ∃ W, W = w4.alloc (.cells #[.int .u64 3] 26) := ⟨_, rfl⟩
        rw [← hW5] at hl hf g5 ⊢
        clear hW5 hs g4 g0
        refine GX.branch1 3 (by kernel_rfl) ?_
        refine xOp_call rfl rfl rfl rfl enters_deltaWeights #[.agg (tr ⟨sf⟩), .agg (vo ⟨s3, V3.out⟩), .slice (some ⟨w4.heap.size, 0, none⟩) 1 1] rfl ?_
        refine (HWt.out sf s3 _ W5 hf (slE_keep g5 C.out.s) hl).mono ?_
        rintro e w6 ⟨u, rfl, hu, g6⟩
        refine ⟨_, rfl, g6, ?_⟩
        simp only [Act.put, List.setIfInBounds_toArray, List.set_cons_zero, List.set_cons_succ]
        refine GX.take2 4 rfl rfl rfl (by kernel_rfl) (by kernel_rfl) (by kernel_rfl) rfl hwB ?_
        (first | go_big_quiet_step (fail) | quiet_step (fail)); refine wpQuiet_nil ?_
        refine GX.take2 5 rfl rfl rfl (by kernel_rfl) (by kernel_rfl) (by kernel_rfl) rfl hwB ?_
        (first | go_big_quiet_step (fail) | quiet_step (fail)); refine wpQuiet_nil ?_
        refine GX.take2 6 rfl rfl rfl (by kernel_rfl) (by kernel_rfl) (by kernel_rfl) rfl hwB ?_
        (first | go_big_quiet_step (fail) | quiet_step (fail)); refine wpQuiet_nil ?_
        refine GX.take2 7 rfl rfl rfl (by kernel_rfl) (by kernel_rfl) (by kernel_rfl) rfl hwB ?_
        (first | go_big_quiet_step (fail) | quiet_step (fail)); refine wpQuiet_nil ?_
        refine GX.take2 8 rfl rfl rfl (by kernel_rfl) (by kernel_rfl) (by kernel_rfl) rfl hwB ?_
        (first | go_big_quiet_step (fail) | quiet_step (fail)); refine wpQuiet_nil ?_
        refine GX.nil (by kernel_rfl) ?_
        have HR : Hid (AwB W4 u (.bool true) w6) := ⟨rfl, hu, belowT g5 g6⟩
        clear hwB Q0
        go_wp2_with fail
        go_meet
        exact HR.out
      · refine xOp_eff rfl rfl rfl (.slice (some ⟨W4.heap.size, 0, none⟩) 1 1) (W4.drew.alloc (.cells #[.int .u64 3] 26)) (by go_simp) (relE_lq below1) ?_
        simp only [Act.put, List.setIfInBounds_toArray, List.set_cons_zero, List.set_cons_succ]
        have hl0 := one3 W4.drew _ rfl
        have g0 : Below W4.heap.size W4 (W4.drew.alloc (.cells #[.int .u64 3] 26)) := belowT (belowD (Below.refl _ _) 1) below1
        obtain ⟨U4, hW4⟩ : ∃ W, W = W4.drew.alloc (.cells #[.int .u64 3] 26) := ⟨_, rfl⟩
        rw [← hW4] at hl0 g0 ⊢
        clear hW4
        refine GX.branch1 0 (by kernel_rfl) ?_
        refine xOp_call rfl rfl rfl rfl enters_fork #[] rfl ?_
        refine (fork _).mono ?_
        rintro e W5 ⟨sf, rfl, hf, g4⟩
        refine ⟨_, rfl, g4, ?_⟩
        simp only [Act.put, List.setIfInBounds_toArray, List.set_cons_zero, List.set_cons_succ]
        have hl := slE_keep g4 hl0
        have g5 : Below W4.heap.size W4 W5 := belowT g0 g4
        clear hl0 g4 g0
        refine GX.branch1 3 (by kernel_rfl) ?_
        refine xOp_call rfl rfl rfl rfl enters_deltaWeights #[.agg (tr ⟨sf⟩), .agg (vo ⟨s3, V3.out⟩), .slice (some ⟨W4.drew.heap.size, 0, none⟩) 1 1] rfl ?_
        refine (HWt.out sf s3 _ W5 hf (slE_keep g5 C.out.s) hl).mono ?_
        rintro e w6 ⟨u, rfl, hu, g6⟩
        refine ⟨_, rfl, g6, ?_⟩
        simp only [Act.put, List.setIfInBounds_toArray, List.set_cons_zero, List.set_cons_succ]
        refine GX.take2 4 rfl rfl rfl (by kernel_rfl) (by kernel_rfl) (by kernel_rfl) rfl hwB ?_
        (first | go_big_quiet_step (fail) | quiet_step (fail)); refine wpQuiet_nil ?_
        refine GX.take2 5 rfl rfl rfl (by kernel_rfl) (by kernel_rfl) (by kernel_rfl) rfl hwB ?_
        (first | go_big_quiet_step (fail) | quiet_step (fail)); refine wpQuiet_nil ?_
        refine GX.take2 6 rfl rfl rfl (by kernel_rfl) (by kernel_rfl) (by kernel_rfl) rfl hwB ?_
        (first | go_big_quiet_step (fail) | quiet_step (fail)); refine wpQuiet_nil ?_
        refine GX.take2 7 rfl rfl rfl (by kernel_rfl) (by kernel_rfl) (by kernel_rfl) rfl hwB ?_
        (first | go_big_quiet_step (fail) | quiet_step (fail)); refine wpQuiet_nil ?_
        refine GX.take2 8 rfl rfl rfl (by kernel_rfl) (by kernel_rfl) (by kernel_rfl) rfl hwB ?_
        (first | go_big_quiet_step (fail) | quiet_step (fail)); refine wpQuiet_nil ?_
        refine GX.nil (by kernel_rfl) ?_
        have HR : Hid (AwB W4 u (.bool true) w6) := ⟨rfl, hu, belowT g5 g6⟩
        clear hwB Q0
        go_wp2_with fail
        go_meet
        exact HR.out
    case rest =>
      obtain ⟨rfl, hw, g⟩ := hcut
      obtain ⟨pw, cw, rfl⟩ := slE_len hw rfl
      replace HU := Lib.hid (slE_keep g HU.out)
      replace HV := Lib.hid (slE_keep g HV.out)
      have HQ := Lib.hid hw
      have G := Lib.hid (belowT C.out.g g)
      clear hw g C
      go_wp2_with fail
      refine (HSm.out _ _ [0, 0, 3] _ (slE_keep below1 HU.out) (lit3 _ 0 0 3 (by decide) (by decide) (by decide) _ rfl) rfl).mono ?_
      rintro e v0 ⟨rfl, g⟩
      replace HV := Lib.hid (slE_keep (belowT below1 g) HV.out)
      replace HQ := Lib.hid (slE_keep (belowT below1 g) HQ.out)
      replace G := Lib.hid (belowT G.out (belowT below1 g))
      clear g HU
      go_wp2_with fail
      refine (HSm.out _ _ [0, 3, 0] _ (slE_keep below1 HV.out) (lit3 _ 0 3 0 (by decide) (by decide) (by decide) _ rfl) rfl).mono ?_
      rintro e v1 ⟨rfl, g⟩
      replace HQ := Lib.hid (slE_keep (belowT below1 g) HQ.out)
      replace G := Lib.hid (belowT G.out (belowT below1 g))
      clear g HV
      go_wp2_with fail
      refine (HSm.out _ _ [3, 0, 3] _ (slE_keep below1 HQ.out) (lit3 _ 3 0 3 (by decide) (by decide) (by decide) _ rfl) rfl).mono ?_
      rintro e v2 ⟨rfl, g⟩
      replace G := Lib.hid (belowT G.out (belowT below1 g))
      clear g HQ
      go_wp2_with fail
      go_ret
      exact ⟨rfl, G.out⟩
end Go.Proofs.Ytccihllcohnnnaa
