/-
  The law VoteFirst, walked. (written by wip/gen/law12.py)
-/
import Derived.Test.YtfmbgpjpkahmnaaW12
import Derived.Test.YtfmbgpjpkahmnaaVoteQ
namespace Go.Proofs.Ytfmbgpjpkahmnaa
open Go.RowKit

set_option maxRecDepth 100000 in
set_option maxHeartbeats 8000000 in
theorem voteFirstL (H : VoteC) (n val : Int) (r : Rt) (ep : UInt64) (w : World) :
    Calls Try.prog 7 #[.int .i64 n, .int .i64 val, .agg (rc r), .int .u64 (ep.toNat : Int)] w fun e w' => e = .returned (.bool true) ∧ Below w.heap.size w w' := by
  obtain ⟨W0, hW0⟩ : ∃ W0, W0 = w.alloc (.cells (rc r) 27) := ⟨_, rfl⟩
  have G : Hid (Below w.heap.size w W0) := by rw [hW0]; exact below1
  have M : Hid (W0.heap[w.heap.size]? = some (.cells (rc r) 27 (0, 0))) := by rw [hW0]; exact heap_alloc_last w _
  have HW := Lib.hid hW0
  have HAw := Lib.hid (fun W => awake_any12 H W)
  have HH := Lib.hid H
  have HN := Lib.hid (fun W => H.new n W)
  obtain ⟨ok, hok⟩ : ∃ b, b = newOkV n := ⟨_, rfl⟩
  rw [← hok] at HN
  have HOk := Lib.hid hok
  obtain ⟨V, hV⟩ : ∃ V, V = newV n := ⟨_, rfl⟩
  rw [← hV] at HN
  have HV := Lib.hid hV
  clear hW0 H hok hV
  go_enter Try.func7, Try.ntmps7
  go_wp2_with fail
  rw [← HW.out]
  refine (HAw.out _).mono ?_
  rintro e w1 ⟨rfl, g⟩
  replace M := Lib.hid (blk_keep g M.out)
  replace G := Lib.hid (belowT G.out g)
  clear g
  go_wp2_with fail
  refine (HN.out _).mono ?_
  rintro e w2 ⟨s, rfl, hs, g⟩
  have A := Lib.hid (vw_at (belowT G.out g) hs)
  replace M := Lib.hid (blk_keep (belowT g (below1 (o := .cells (vo ⟨s, V.out⟩) 25))) M.out)
  replace G := Lib.hid (belowT G.out (belowT g (below1 (o := .cells (vo ⟨s, V.out⟩) 25))))
  clear hs g
  go_upto_region 3 with fail
  obtain ⟨WA, hW⟩ : ∃ W, W = w2.alloc (.cells (vo ⟨s, V.out⟩) 25) := ⟨_, rfl⟩
  rw [← hW] at M G A ⊢
  clear hW
  cases ok
  · have hno : ¬ (1 ≤ n ∧ n ≤ 8) := of_decide_eq_false HOk.out.symm
    by_cases h1 : n < 1
    · have t1 : decide (n < 1) = true := decide_eq_true h1
      clear h1 hno
      go_wp2_with fail
      go_ret
      exact ⟨rfl, A.out.g⟩
    · have t1 : decide (n < 1) = false := decide_eq_false h1
      have t2 : decide (8 < n) = true := decide_eq_true (by omega)
      clear h1 hno
      go_wp2_with fail
      go_ret
      exact ⟨rfl, A.out.g⟩
  · by_cases h1 : val < 0
    · have t1 : decide (val < 0) = true := decide_eq_true h1
      clear h1
      go_wp2_with fail
      go_ret
      exact ⟨rfl, A.out.g⟩
    · have t1 : decide (val < 0) = false := decide_eq_false h1
      by_cases h2 : n ≤ val
      · have t2 : decide (n ≤ val) = true := decide_eq_true h2
        clear h1 h2
        go_wp2_with fail
        go_ret
        exact ⟨rfl, A.out.g⟩
      · have t2 : decide (n ≤ val) = false := decide_eq_false h2
        obtain ⟨j, rfl⟩ : ∃ j : Nat, val = j := ⟨val.toNat, by omega⟩
        obtain ⟨m1, m2, m3, m4⟩ := new_may HOk.out.symm
        rw [← HV.out] at m1 m2 m3 m4
        have hj : j < V.l.length := by omega
        have h8 := (mayV_iff.1 m1).2.1
        obtain ⟨e1, e2, e3⟩ := put_step (z := (j : Int)) (r := r) (ep := ep) m1 ⟨by omega, by omega⟩
        rw [Int.toNat_natCast] at e1 e2
        have hf : fateV V j r ep = 1 := taken_iff.2 ⟨.inl (by rw [m4]; rfl), by rw [m3]; exact has_zero _⟩
        rw [fate_one hf, m3] at e1
        rw [hf] at e2
        have HP := Lib.hid (fun W (h : SlE Elt W (sv s) V.l) => HH.out.put s V (j : Int) r ep W h (by omega))
        rw [e1, e2, e3] at HP
        obtain ⟨k, hk⟩ : ∃ k, k = V.l.set j ⟨true, r, ep⟩ := ⟨_, rfl⟩
        rw [← hk] at HP
        have HL : Hid (k.length = V.l.length) := by rw [hk]; exact List.length_set
        have HJ := Lib.hid hj
        have HX : Hid (lat k j = ⟨true, r, ep⟩) := by show _ = _; rw [hk, lat_set hj, if_pos rfl]
        have i0 : (0 : Int) ≤ (j : Int) := by omega
        clear h1 h2 m1 m2 m3 m4 hj h8 e1 e2 e3 hf hk
        have z1 := A.out.z1
        have zr := ldA_block M.out (rc_size _)
        go_wp2_with fail
        refine (HP.out _ A.out.s).mono ?_
        rintro e w3 ⟨s2, rfl, hs, g⟩
        clear z1 zr
        have B := Lib.hid (vw_at (v := ⟨k, 0⟩) (belowT A.out.g g) hs)
        replace M := Lib.hid (blk_keep (belowT g (below1 (o := .cells (vo ⟨s2, 0⟩) 25))) M.out)
        clear hs g
        go_upto_region 6 with fail
        obtain ⟨W5, hW⟩ : ∃ W, W = w3.alloc (.cells (vo ⟨s2, 0⟩) 25) := ⟨_, rfl⟩
        skip
        replace B : Hid (Vw w (w3.alloc (.cells (vo ⟨s2, 0⟩) 25)) w3.heap.size s2 ⟨k, 0⟩) := B
        rw [← hW] at M B ⊢
        clear hW
        obtain ⟨p2, n2, c2⟩ := s2
        have hl2 := sv_lenT B.out.s
        dsimp only at hl2
        obtain ⟨b1, o1, rfl, _, q1⟩ := lats_ptr B.out.s (by show 0 < k.length; rw [HL.out]; have := HJ.out; omega)
        have y1 := lats_ld q1 (i := j) (by show j < k.length; rw [HL.out]; exact HJ.out)
        rw [show lat (Vt.mk k 0).l j = _ from HX.out] at y1
        have i1 : (j : Int) < (n2 : Int) := by have := HL.out; have := HJ.out; omega
        have z0 := B.out.z0
        rw [sv_mk] at z0
        have zo := B.out.zo
        rw [show (((Vt.mk k 0).out.toNat : Nat) : Int) = 0 from rfl] at zo
        have zr := ldA_block M.out (rc_size _)
        clear q1 hl2
        go_quiet (fail)
        go_wp2_with fail
        go_ret
        exact ⟨rfl, belowD B.out.g _⟩
end Go.Proofs.Ytfmbgpjpkahmnaa
