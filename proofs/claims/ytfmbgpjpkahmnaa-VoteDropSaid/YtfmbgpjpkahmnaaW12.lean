/-
  What is asked of package vote's functions (contracts, by name); the law's own example.
-/
import Derived.Test.YtfmbgpjpkahmnaaR12New
import Derived.Test.YtfmbgpjpkahmnaaR12Put
import Derived.Test.YtfmbgpjpkahmnaaR12Same
import Derived.Test.YtfmbgpjpkahmnaaRl
namespace Go.Proofs.Ytfmbgpjpkahmnaa
open Go.RowKit

/-- Put: what is answered besides lies where the votes lay, or is new. -/
def VoErO (v : Vt) (k n : Nat) (s : SlV) (w : World) (e : Ending) (w' : World) : Prop := ∃ s' : SlV, e = .returned (.tuple #[.agg (vo ⟨s', v.out⟩), .int .i64 (k : Int), .int .i64 (n : Int)]) ∧ SlE Elt w' (sv s') v.l ∧ Below w.heap.size w w' ∧ ∀ b, (sv s').ownBlock = some b → (sv s).ownBlock = some b ∨ w.heap.size ≤ b
/-- All of them. -/
structure VoteC : Prop where
  may : ∀ (s : SlV) (v : Vt) (w : World), SlE Elt w (sv s) v.l → Calls Try.prog 18 #[.agg (vo ⟨s, v.out⟩)] w fun e w' => e = .returned (.bool (mayV v)) ∧ Below w.heap.size w w'
  new : ∀ (n : Int) (w : World), Calls Try.prog 15 #[.int .i64 n] w (VoOk (newV n) (newOkV n) w)
  put : ∀ (s : SlV) (v : Vt) (i : Int) (r : Rt) (ep : UInt64) (w : World), SlE Elt w (sv s) v.l → v.l.length ≤ 1000 → Calls Try.prog 10 #[.agg (vo ⟨s, v.out⟩), .int .i64 i, .agg (rc r), .int .u64 (ep.toNat : Int)] w (VoEr (putV v i r ep) (putVk v i r ep) (putVe v i) w)
  putO : ∀ (s : SlV) (v : Vt) (i : Int) (r : Rt) (ep : UInt64) (w : World), SlE Elt w (sv s) v.l → v.l.length ≤ 1000 → Calls Try.prog 10 #[.agg (vo ⟨s, v.out⟩), .int .i64 i, .agg (rc r), .int .u64 (ep.toNat : Int)] w (VoErO (putV v i r ep) (putVk v i r ep) (putVe v i) s w)
  drop : ∀ (s : SlV) (u : Value) (v : Vt) (keep : List Rt) (w : World), SlE Elt w (sv s) v.l → SlE Ert w u keep → v.l.length ≤ 1000 → keep.length ≤ 1000 → Calls Try.prog 13 #[.agg (vo ⟨s, v.out⟩), u] w (VoIs (dropV v keep) w)
  same : ∀ (s s' : SlV) (v u : Vt) (w : World), SlE Elt w (sv s) v.l → SlE Elt w (sv s') u.l → v.l.length ≤ 1000 → Calls Try.prog 19 #[.agg (vo ⟨s, v.out⟩), .agg (vo ⟨s', u.out⟩)] w fun e w' => e = .returned (.bool (decide (v = u))) ∧ Below w.heap.size w w'
theorem enters_voteMay : ∀ args w, (callFunc 18 args).run Try.prog w = .ok (.enter 18 args) w := entersE Try.func18 (by kernel_rfl) (by kernel_rfl)
theorem enters_votePut : ∀ args w, (callFunc 10 args).run Try.prog w = .ok (.enter 10 args) w := entersE Try.func10 (by kernel_rfl) (by kernel_rfl)
theorem enters_voteDrop : ∀ args w, (callFunc 13 args).run Try.prog w = .ok (.enter 13 args) w := entersE Try.func13 (by kernel_rfl) (by kernel_rfl)
theorem enters_voteSame : ∀ args w, (callFunc 19 args).run Try.prog w = .ok (.enter 19 args) w := entersE Try.func19 (by kernel_rfl) (by kernel_rfl)
/-- Votes that are answered, in a new variable. -/
theorem vw_at {w W : World} {s : SlV} {v : Vt} (g : Below w.heap.size w W) (h : SlE Elt W (sv s) v.l) : Vw w (W.alloc (.cells (vo ⟨s, v.out⟩) 25)) W.heap.size s v := ⟨heap_alloc_last W _, slE_keep below1 h, belowT g below1⟩
def vx1 : Vt := newV 1
def vx2 : Vt := putV vx1 0 r1 2
def vx3 : Vt := putV vx2 0 r2 2
theorem vote_ex : newOkV 1 = true ∧ putVk vx1 0 r1 2 = 1 ∧ putVe vx1 0 = 0 ∧ putVk vx2 0 r2 2 = 2 ∧ putVe vx2 0 = 0 ∧ (lat vx2.l 0).has = true ∧ vx2.l.length = 1 ∧ vx3.out = 1 ∧ mayV vx3 = true ∧ vx1.l.length = 1 ∧ vx3.l.length = 1 := by decide +kernel

set_option maxRecDepth 100000 in
set_option maxHeartbeats 8000000 in
theorem awake_any12 (H : VoteC) (w : World) : Calls Try.prog 9 #[] w fun e w' => e = .returned (.bool true) ∧ Below w.heap.size w w' := by
  obtain ⟨x1, x2, x3, x4, x5, x6, x7, x8, x9, x10, x11⟩ := vote_ex
  have HN := Lib.hid (H.new 1 w)
  have HP1 : Hid (∀ (s : SlV) (W : World), SlE Elt W (sv s) vx1.l → Calls Try.prog 10 #[.agg (vo ⟨s, vx1.out⟩), .int .i64 0, .agg (rc r1), .int .u64 2] W (VoEr (putV vx1 0 r1 2) (putVk vx1 0 r1 2) (putVe vx1 0) W)) := fun s W h => H.put s vx1 0 r1 2 W h (by omega)
  have HP2 : Hid (∀ (s : SlV) (W : World), SlE Elt W (sv s) vx2.l → Calls Try.prog 10 #[.agg (vo ⟨s, vx2.out⟩), .int .i64 0, .agg (rc r2), .int .u64 2] W (VoEr (putV vx2 0 r2 2) (putVk vx2 0 r2 2) (putVe vx2 0) W)) := fun s W h => H.put s vx2 0 r2 2 W h (by omega)
  have HM := Lib.hid (fun (s : SlV) W (h : SlE Elt W (sv s) vx3.l) => H.may s vx3 W h)
  have HS := Lib.hid (fun (s : SlV) W (h : SlE Elt W (sv s) vx3.l) => H.same s s vx3 vx3 W h h (by omega))
  rw [x1, show newV 1 = vx1 from rfl] at HN
  rw [x2, x3, show putV vx1 0 r1 2 = vx2 from rfl] at HP1
  rw [x4, x5, show putV vx2 0 r2 2 = vx3 from rfl] at HP2
  rw [x9] at HM
  rw [decide_eq_true rfl] at HS
  have X6 := Lib.hid x6
  have X7 := Lib.hid x7
  have X8 := Lib.hid x8
  clear x1 x2 x3 x4 x5 x6 x7 x8 x9 x10 x11 H
  generalize vx1 = V1 at *
  generalize vx2 = V2 at *
  generalize vx3 = V3 at *
  go_enter Try.func9, Try.ntmps9
  go_wp2_with fail
  refine HN.out.mono ?_
  rintro e w1 ⟨s1, rfl, h1, g1⟩
  have A := Lib.hid (vw_at g1 h1)
  clear h1 g1
  go_wp2_with fail
  refine (HP1.out _ _ A.out.s).mono ?_
  rintro e w2 ⟨s2, rfl, h2, g2⟩
  have B := Lib.hid (vw_at (belowT A.out.g g2) h2)
  clear h2 g2 A
  go_wp2_with fail
  refine (HP2.out _ _ B.out.s).mono ?_
  rintro e w3 ⟨s3, rfl, h3, g3⟩
  have C := Lib.hid (vw_at (belowT B.out.g g3) h3)
  replace B := Lib.hid (B.out.keep (W' := w3.alloc (.cells (vo ⟨s3, V3.out⟩) 25)) (belowT g3 below1))
  clear h3 g3
  go_upto_region 4 with fail
  obtain ⟨W3, hW3⟩ : ∃ W3, W3 = w3.alloc (.cells (vo ⟨s3, V3.out⟩) 25) := ⟨_, rfl⟩
  rw [← hW3] at B C ⊢
  clear hW3
  obtain ⟨p2, n2, c2⟩ := s2
  have hl2 := sv_lenT B.out.s
  rw [X7.out] at hl2
  dsimp only at hl2
  subst hl2
  obtain ⟨b1, o1, rfl, _, q1⟩ := lats_ptr B.out.s (by rw [X7.out]; decide)
  have y1 := lats_has q1 (i := 0) (by rw [X7.out]; decide)
  rw [X6.out, Nat.zero_mul, Nat.add_zero] at y1
  have z0 := B.out.z0
  rw [sv_mk] at z0
  have zo := C.out.zo
  rw [X8.out, show ((1 : UInt64).toNat : Int) = 1 from rfl] at zo
  have z1 := C.out.z1
  clear q1
  go_wp2_with fail
  refine (HM.out _ _ C.out.s).mono ?_
  rintro e w4 ⟨rfl, g⟩
  replace C := Lib.hid (C.out.keep g)
  clear g z0 zo z1 y1
  have z1 := C.out.z1
  go_wp2_with fail
  refine (HS.out _ _ C.out.s).mono ?_
  rintro e w5 ⟨rfl, g⟩
  replace C := Lib.hid (C.out.keep g)
  clear g z1
  go_wp2_with fail
  go_ret
  exact ⟨rfl, C.out.g⟩
end Go.Proofs.Ytfmbgpjpkahmnaa
