/-
  The law VoteLatest, walked. (written by wip/gen/law12.py)
-/
import Derived.Test.YtfmbgpjpkahmnaaW12
import Derived.Test.YtfmbgpjpkahmnaaVoteQ
import Derived.Test.YtfmbgpjpkahmnaaVoteL
import Derived.Test.YtfmbgpjpkahmnaaNumS
import Derived.Test.YtfmbgpjpkahmnaaLexA
import Derived.Test.YtfmbgpjpkahmnaaLexG
import Derived.Deep.Cut
import Derived.Deep.CutRange
import Derived.Deep.RegionLaw
namespace Go.Proofs.Ytfmbgpjpkahmnaa
open Go.RowKit

theorem new_drewL (w : World) (o : Obj) (n : Nat) : ((w.alloc o).drewN n).heap[w.heap.size]? = some o := heap_alloc_last w o
/-- What Put answers, in a new variable, wherever its block came up. -/
def CutL (W : World) (X : Vt) (K : Nat) (s : SlV) (t k e : Value) (wx : World) : Prop :=
  ∃ T s', t = .pointer (some ⟨T, 0, none⟩) ∧ k = .int .i64 (K : Int) ∧ e = .int .i64 0 ∧ wx.heap[T]? = some (.cells (vo ⟨s', X.out⟩) 25 (0, 0)) ∧ SlE Elt wx (sv s') X.l ∧ W.heap.size ≤ T ∧ Below W.heap.size W wx ∧ ∀ b, (sv s').ownBlock = some b → (sv s).ownBlock = some b ∨ W.heap.size ≤ b
theorem cutL_old {W w4 : World} {n K : Nat} {s s2 : SlV} {X : Vt} (g2 : Below ((W.alloc (.cells (vo zvo) 25)).drewN n).heap.size ((W.alloc (.cells (vo zvo) 25)).drewN n) w4) (hs : SlE Elt w4 (sv s2) X.l)
    (ho : ∀ b, (sv s2).ownBlock = some b → (sv s).ownBlock = some b ∨ ((W.alloc (.cells (vo zvo) 25)).drewN n).heap.size ≤ b) : CutL W X K s (.pointer (some ⟨W.heap.size, 0, none⟩)) (.int .i64 (K : Int)) (.int .i64 0) (stA w4 (.pointer (some ⟨W.heap.size, 0, none⟩)) (.agg (vo ⟨s2, X.out⟩))) := by
  have hz : ((W.alloc (.cells (vo zvo) 25)).drewN n).heap.size = W.heap.size + 1 := by show (W.alloc _).heap.size = _; simp
  have hn := blk_keep g2 (new_drewL W _ n)
  refine ⟨_, s2, rfl, rfl, rfl, heap_putV hn (by rw [vo_size, vo_size]), slE_put_vo (by decide) hs hn, Nat.le_refl _, below_stA (belowT (belowD below1 n) g2) (Nat.le_refl _), fun b hb => (ho b hb).imp id (fun h => by rw [hz] at h; omega)⟩
theorem cutL_new {W w4 : World} {n K : Nat} {s s2 : SlV} {X : Vt} (g2 : Below (W.drewN n).heap.size (W.drewN n) w4) (hs : SlE Elt w4 (sv s2) X.l)
    (ho : ∀ b, (sv s2).ownBlock = some b → (sv s).ownBlock = some b ∨ (W.drewN n).heap.size ≤ b) : CutL W X K s (.pointer (some ⟨w4.heap.size, 0, none⟩)) (.int .i64 (K : Int)) (.int .i64 0) (w4.alloc (.cells (vo ⟨s2, X.out⟩) 25)) :=
  ⟨_, s2, rfl, rfl, rfl, heap_alloc_last _ _, slE_keep below1 hs, g2.size, belowT (belowT (belowD (Below.refl _ _) n) g2) below1, fun b hb => ho b hb⟩
/-- A vote in a variable, a root and a number elsewhere. -/
structure Lw (W : World) (T1 : Nat) (want : Lt) (b2 o2 : Nat) (ρ : Rt) (b3 o3 : Nat) (ep : Nat) : Prop where
  x : W.heap[T1]? = some (.cells (lt want) 41 (0, 0))
  r : ldA W (.pointer (some ⟨b2, o2, none⟩)) 32 = some (rc ρ)
  e : W.cell? ⟨b3, o3, none⟩ = some (.int .u64 (ep : Int))
theorem Lw.keep {W W' : World} {T1 : Nat} {want : Lt} {b2 o2 : Nat} {ρ : Rt} {b3 o3 : Nat} {ep : Nat} (h : Lw W T1 want b2 o2 ρ b3 o3 ep) (g : Below W.heap.size W W') : Lw W' T1 want b2 o2 ρ b3 o3 ep :=
  ⟨blk_keep g h.x, Go.Proofs.Ytfmbgpjpkahmnaa.keep g h.r, (g.cell (p := ⟨b3, o3, none⟩) (block_lt_of_cell h.e)).trans h.e⟩
theorem vw_put1 {w W : World} {T T1 : Nat} {s : SlV} {v : Vt} {y : Value} (h : Vw w W T s v) (hT : T ≠ T1) (ho : (sv s).ownBlock ≠ some T1) (h1 : w.heap.size ≤ T1) : Vw w (stA W (.pointer (some ⟨T1, 0, none⟩)) y) T s v :=
  ⟨(heap_stA hT).trans h.box, slE_stA' h.s ho, below_stA h.g h1⟩
theorem heap_putL {w : World} {g : Nat} {c r : Lt} (hg : w.heap[g]? = some (.cells (lt c) 41 (0, 0))) : (stA w (.pointer (some ⟨g, 0, none⟩)) (.agg (lt r))).heap[g]? = some (.cells (lt r) 41 (0, 0)) := heap_putV hg (by rw [lt_size, lt_size])

set_option maxRecDepth 100000 in
set_option maxHeartbeats 8000000 in
theorem voteLatest_n (H : VoteC) (n val : Int) (pr : Option Addr) (nr cr : Nat) (roots : List Rt) (pe : Option Addr) (ne ce : Nat) (epochs : List UInt64) (w : World) (hr : SlE Ert w (.slice pr nr cr) roots) (lr : roots.length = nr) (he : SlE Enum w (.slice pe ne ce) epochs) (le : epochs.length = ne) :
    Calls Try.prog 4 #[.int .i64 n, .int .i64 val, .slice pr nr cr, .slice pe ne ce] w fun e w' => e = .returned (.bool true) ∧ Below w.heap.size w w' := by
  have G := Lib.hid (Below.refl w.heap.size w)
  have HAw := Lib.hid (fun W => awake_any12 H W)
  have HH := Lib.hid H
  have HN := Lib.hid (fun W => H.new n W)
  obtain ⟨ok, hok⟩ : ∃ b, b = newOkV n := ⟨_, rfl⟩
  rw [← hok] at HN
  have HOk := Lib.hid hok
  have HLn := Lib.hid (fun (e : newOkV n = true) (j : Nat) => lv_new e j)
  obtain ⟨V0, hV⟩ : ∃ V, V = newV n := ⟨_, rfl⟩
  rw [← hV] at HN HLn
  have HRo := Lib.hid hr
  have HEp := Lib.hid he
  have Lr := Lib.hid lr
  have Le := Lib.hid le
  clear H hok hV hr lr he le
  go_enter Try.func4, Try.ntmps4
  go_wp2_with fail
  refine (HAw.out _).mono ?_
  rintro e w1 ⟨rfl, g⟩
  replace G := Lib.hid (belowT G.out g)
  clear g
  go_wp2_with fail
  refine (HN.out _).mono ?_
  rintro e w2 ⟨s0, rfl, hs, g⟩
  have HT0 : Hid (w.heap.size ≤ w2.heap.size) := Nat.le_trans G.out.size g.size
  have A := Lib.hid (vw_at (belowT G.out g) hs)
  replace G := Lib.hid (belowT G.out (belowT g (below1 (o := .cells (vo ⟨s0, V0.out⟩) 25))))
  clear hs g
  go_upto_region 3 with fail
  obtain ⟨WA, hW⟩ : ∃ W, W = w2.alloc (.cells (vo ⟨s0, V0.out⟩) 25) := ⟨_, rfl⟩
  rw [← hW] at G A ⊢
  clear hW
  cases ok
  · skip
    go_wp2_with fail
    go_ret
    exact ⟨rfl, A.out.g⟩
  by_cases h1 : val < 0
  · have h1i : decide (val < 0) = true := decide_eq_true (h1)
    clear h1
    go_wp2_with fail
    go_ret
    exact ⟨rfl, A.out.g⟩
  have h1i : decide (val < 0) = false := decide_eq_false (h1)
  by_cases h2 : n ≤ val
  · have h2i : decide (n ≤ val) = true := decide_eq_true (h2)
    clear h2
    go_wp2_with fail
    go_ret
    exact ⟨rfl, A.out.g⟩
  have h2i : decide (n ≤ val) = false := decide_eq_false (h2)
  by_cases hne : nr = ne
  rotate_left
  · have t1 : ((nr : Int) != (ne : Int)) = true := by rw [bne_iff_ne]; omega
    clear hne
    go_wp2_with fail
    go_ret
    exact ⟨rfl, A.out.g⟩
  subst hne
  by_cases h3 : 20 < nr
  · have h3i : decide ((20 : Int) < (nr : Int)) = true := decide_eq_true (by omega)
    have h3i' : decide (20 < nr) = true := decide_eq_true (by omega)
    clear h3
    go_wp2_with fail
    go_ret
    exact ⟨rfl, A.out.g⟩
  have h3i : decide ((20 : Int) < (nr : Int)) = false := decide_eq_false (by omega)
  have h3i' : decide (20 < nr) = false := decide_eq_false (by omega)
  have hok2 : 1 ≤ n ∧ n ≤ 8 := of_decide_eq_true HOk.out.symm
  obtain ⟨j, rfl⟩ : ∃ j' : Nat, val = j' := ⟨val.toNat, by omega⟩
  obtain ⟨N, rfl⟩ : ∃ N' : Nat, n = N' := ⟨n.toNat, by omega⟩
  have HLv0 : Hid (Lv V0 N j false zlt) := by have := HLn.out HOk.out.symm j; rwa [Int.toNat_natCast] at this
  have j0 : (0 : Int) ≤ (j : Int) := by omega
  have j1 : (j : Int) < (N : Int) := by omega
  have Hj : Hid (j < N) := by show _ < _; omega
  have H20 : Hid (nr ≤ 20) := by show _ ≤ _; omega
  have H8 : Hid (N ≤ 8) := by show _ ≤ _; omega
  clear HLn h1 h2 h3 hok2
  have hT0 := HT0.out
  clear HT0
  have hNA : ∀ b, (sv s0).ownBlock = some b → b < WA.heap.size := fun b hb => by
    obtain ⟨q, c, e, _⟩ := slE_shape A.out.s
    exact slE_lt A.out.s e (by rw [HLv0.out.len]; have := Hj.out; omega) hb
  have hT01 : w2.heap.size < WA.heap.size := (vo_cells A.out.box).2.2.2
  go_upto_region 6 with fail
  obtain ⟨WB, hW⟩ : ∃ W, W = WA.alloc (.cells (lt zlt) 41) := ⟨_, rfl⟩
  rw [← hW]
  have X1 : WB.heap[WA.heap.size]? = some (.cells (lt zlt) 41 (0, 0)) := by rw [hW]; exact heap_alloc_last _ _
  replace A : Hid (Vw w WB w2.heap.size s0 V0) := by rw [hW]; exact A.out.keep below1
  have hNA2 : (sv s0).ownBlock ≠ some WA.heap.size := fun e => by have := hNA _ e; omega
  obtain ⟨T1, hT1⟩ : ∃ T, T = WA.heap.size := ⟨_, rfl⟩
  obtain ⟨T0, hT0e⟩ : ∃ T, T = w2.heap.size := ⟨_, rfl⟩
  rw [← hT1] at X1 hNA2 hT01 ⊢
  rw [← hT0e] at A hT0 hT01 ⊢
  have X1 := Lib.hid X1
  have HNA := Lib.hid hNA2
  have HT0 := Lib.hid hT0
  have HT01 := Lib.hid hT01
  clear hW hT1 hT0e hNA hNA2 hT0 hT01
  go_wp2_with fail
  go_loopw [13, 14, 15, 16, 17, 18] (fun tw i _ _ _ _ wr => ∃ y : Nat, y ≤ nr ∧ i = .int .i64 (y : Int) ∧ ∃ s V tb want, tw = .bool tb ∧ Vw w wr T0 s V ∧ wr.heap[T1]? = some (.cells (lt want) 41 (0, 0)) ∧ (sv s).ownBlock ≠ some T1 ∧ Lv V N j tb want) (fun _ i _ _ _ _ _ => nr - (intOf i).toNat)
  case atStart => exact ⟨0, Nat.zero_le _, rfl, s0, V0, false, zlt, rfl, A.out, X1.out, HNA.out, HLv0.out⟩
  case round =>
    obtain ⟨y, hy, rfl, s, V, tb, want, rfl, hA, hX, hNA, hLv⟩ := hrel
    by_cases hlt : y < nr
    rotate_left
    · obtain rfl : y = nr := by omega
      have GA := Lib.hid hA.g
      clear hlt hA hX hNA hLv
      go_wp2_with fail
      go_ret
      exact ⟨rfl, GA.out⟩
    have y0 : (0 : Int) ≤ (y : Int) := by omega
    have y1 : (y : Int) < (nr : Int) := by omega
    have u1 : (y : Int) + 1 < 10000 := by have := H20.out; omega
    have HLT := Lib.hid hlt
    obtain ⟨b2, o2, rfl, hb2, q2⟩ := rts_ptr (slE_keep hA.g HRo.out) (by rw [Lr.out]; omega)
    have Hb2 := Lib.hid hb2
    obtain ⟨b3, o3, rfl, hb3, q3⟩ := nums_ptr (slE_keep hA.g HEp.out) (by rw [Le.out]; omega)
    have Hb3 := Lib.hid hb3
    clear hb2 hb3
    obtain ⟨ρ, hρ⟩ : ∃ ρ, ρ = rtAt roots y := ⟨_, rfl⟩
    obtain ⟨ep, hep⟩ : ∃ ep, ep = epochs.getD y 0 := ⟨_, rfl⟩
    have F : Hid (Lw wr T1 want b2 (o2 + y * 32) ρ b3 (o3 + y) ep.toNat) := ⟨hX, by rw [hρ]; exact rts_ld q2 (by rw [Lr.out]; exact hlt), by rw [hep]; exact nums_cell q3 (by rw [Le.out]; exact hlt)⟩
    replace A := Lib.hid hA
    replace HNA := Lib.hid hNA
    have HLv := Lib.hid hLv
    obtain ⟨e1, e2, e3⟩ := put_step (v := V) (z := (j : Int)) (r := ρ) (ep := ep) hLv.may ⟨j0, by rw [hLv.len]; exact j1⟩
    rw [Int.toNat_natCast] at e1 e2
    have HP := Lib.hid (fun W (h : SlE Elt W (sv s) V.l) => HH.out.putO s V (j : Int) ρ ep W h (by rw [hLv.len]; have := H8.out; omega))
    rw [e1, e2, e3] at HP
    obtain ⟨X, hXd⟩ : ∃ X, X = stepV V j ρ ep := ⟨_, rfl⟩
    obtain ⟨K, hK⟩ : ∃ K, K = fateV V j ρ ep := ⟨_, rfl⟩
    rw [← hXd, ← hK] at HP
    have HX := Lib.hid hXd
    have HKe := Lib.hid hK
    have H1lt : Hid (T1 < wr.heap.size) := (Array.getElem?_eq_some_iff.1 hX).1
    have H0lt : Hid (T0 < wr.heap.size) := (vo_cells hA.box).2.2.2
    have HFt := Lib.hid (hLv.fate (r := ρ) (ep := ep))
    rw [← hK] at HFt
    clear hlt q2 q3 hρ hep hA hX hNA hLv e1 e2 e3 hXd hK
    have z1 := A.out.z1
    have yr := F.out.r
    have ye := F.out.e
    go_upto_region 10 with fail
    go_cut [15, 16, 17] from 60 to 74 (fun t k e wx => CutL wr X K s t k e wx)
    case first =>
      have hwB : wr.heap.size ≤ wr.drew.heap.size := Nat.le_refl _
      have Q0 := wdB_ld (B := wr.heap.size) z1 H0lt.out
      have Q1 := wdB_ld (B := wr.heap.size) yr Hb2.out
      have Q2 := wdB_cell (B := wr.heap.size) ye Hb3.out
      clear z1 yr ye
      refine wp_region_G wr.heap.size [] [10, 15, 16] (by kernel_rfl) ?_
      refine GX.take2 0 rfl rfl rfl (by kernel_rfl) (by kernel_rfl) (by kernel_rfl) rfl hwB ?_
      (first | go_big_quiet_step (fail) | quiet_step (fail)); refine wpQuiet_nil ?_
      refine GX.take2 1 rfl rfl rfl (by kernel_rfl) (by kernel_rfl) (by kernel_rfl) rfl hwB ?_
      (first | go_big_quiet_step (fail) | quiet_step (fail)); refine wpQuiet_nil ?_
      refine GX.take2 2 rfl rfl rfl (by kernel_rfl) (by kernel_rfl) (by kernel_rfl) rfl hwB ?_
      (first | go_big_quiet_step (fail) | quiet_step (fail)); refine wpQuiet_nil ?_
      refine GX.take2 3 rfl rfl rfl (by kernel_rfl) (by kernel_rfl) (by kernel_rfl) rfl hwB ?_
      (first | go_big_quiet_step (fail) | quiet_step (fail)); refine wpQuiet_nil ?_
      refine GX.take2 4 rfl rfl rfl (by kernel_rfl) (by kernel_rfl) (by kernel_rfl) rfl hwB ?_
      (first | go_big_quiet_step (fail) | quiet_step (fail)); refine wpQuiet_nil ?_
      refine GX.take2 5 rfl rfl rfl (by kernel_rfl) (by kernel_rfl) (by kernel_rfl) rfl hwB ?_
      (first | go_big_quiet_step (fail) | quiet_step (fail)); refine wpQuiet_nil ?_
      refine GX.take2 6 rfl rfl rfl (by kernel_rfl) (by kernel_rfl) (by kernel_rfl) rfl hwB ?_
      (first | go_big_quiet_step (fail) | quiet_step (fail)); refine wpQuiet_nil ?_
      refine GX.take2 7 rfl rfl rfl (by kernel_rfl) (by kernel_rfl) (by kernel_rfl) rfl hwB ?_
      (first | go_big_quiet_step (fail) | quiet_step (fail)); refine wpQuiet_nil ?_
      refine GX.take2 8 rfl rfl rfl (by kernel_rfl) (by kernel_rfl) (by kernel_rfl) rfl hwB ?_
      (first | go_big_quiet_step (fail) | quiet_step (fail)); refine wpQuiet_nil ?_
      refine GX.take2 9 rfl rfl rfl (by kernel_rfl) (by kernel_rfl) (by kernel_rfl) rfl hwB ?_
      (first | go_big_quiet_step (fail) | quiet_step (fail)); refine wpQuiet_nil ?_
      refine GX.branch2 10 15 (by kernel_rfl) ?_ ?_
      · skip
        refine xOp_call rfl rfl rfl rfl enters_votePut #[.agg (vo ⟨s, V.out⟩), .int .i64 (j : Int), .agg (rc ρ), .int .u64 (ep.toNat : Int)] rfl ?_
        refine (HP.out _ (slE_keep (belowD (Below.refl _ _) 1) A.out.s)).mono ?_
        rintro e w4 ⟨s2, rfl, hs2, g2, hb2⟩
        refine ⟨_, rfl, g2, ?_⟩
        simp only [Act.put, List.setIfInBounds_toArray, List.set_cons_zero, List.set_cons_succ]
        have g3 : Below wr.heap.size wr w4 := belowT (belowD (Below.refl _ _) 1) g2
        refine GX.take2 11 rfl rfl rfl (by kernel_rfl) (by kernel_rfl) (by kernel_rfl) rfl hwB ?_
        (first | go_big_quiet_step (fail) | quiet_step (fail)); refine wpQuiet_nil ?_
        refine GX.take2 12 rfl rfl rfl (by kernel_rfl) (by kernel_rfl) (by kernel_rfl) rfl hwB ?_
        (first | go_big_quiet_step (fail) | quiet_step (fail)); refine wpQuiet_nil ?_
        refine GX.take2 13 rfl rfl rfl (by kernel_rfl) (by kernel_rfl) (by kernel_rfl) rfl hwB ?_
        (first | go_big_quiet_step (fail) | quiet_step (fail)); refine wpQuiet_nil ?_
        refine GX.take2 14 rfl rfl rfl (by kernel_rfl) (by kernel_rfl) (by kernel_rfl) rfl hwB ?_
        (first | go_big_quiet_step (fail) | quiet_step (fail)); refine wpQuiet_nil ?_
        refine GX.branch1 15 (by kernel_rfl) ?_
        refine xOp_eff rfl rfl rfl (.pointer (some ⟨w4.heap.size, 0, none⟩)) (w4.alloc (.cells (vo zvo) 25)) (by go_simp) (relE_lq below1) ?_
        simp only [Act.put, List.setIfInBounds_toArray, List.set_cons_zero, List.set_cons_succ]
        have hn : (w4.alloc (.cells (vo zvo) 25)).heap[w4.heap.size]? = some (.cells (vo zvo) 25 (0, 0)) := heap_alloc_last _ _
        have hs3 := slE_keep (below1 (o := .cells (vo zvo) 25)) hs2
        have g4 := belowT g3 (below1 (o := .cells (vo zvo) 25))
        obtain ⟨W5, hW5⟩ : ∃ W, W = w4.alloc (.cells (vo zvo) 25) := ⟨_, rfl⟩
        rw [← hW5] at hn hs3 g4 ⊢
        have yw := wrA_block hn (vo_size _)
        clear hW5
        refine GX.branch1 16 (by kernel_rfl) ?_
        refine xOp_store rfl rfl rfl (stA W5 (.pointer (some ⟨w4.heap.size, 0, none⟩)) (.agg (vo ⟨s2, X.out⟩))) (by go_simp) (relE_tail (by kernel_rfl) (below_stA (Below.refl _ _) g3.size)) ?_
        simp only [Act.put]
        have HR : Hid (CutL wr X K s (.pointer (some ⟨w4.heap.size, 0, none⟩)) (.int .i64 (K : Int)) (.int .i64 0) (stA W5 (.pointer (some ⟨w4.heap.size, 0, none⟩)) (.agg (vo ⟨s2, X.out⟩)))) := ⟨_, s2, rfl, rfl, rfl, heap_putV hn (by rw [vo_size, vo_size]), slE_put_vo (by decide) hs3 hn, g3.size, below_stA g4 g3.size, fun b hb => hb2 b hb⟩
        clear yw hn
        refine GX.take2 17 rfl rfl rfl (by kernel_rfl) (by kernel_rfl) (by kernel_rfl) rfl hwB ?_
        (first | go_big_quiet_step (fail) | quiet_step (fail)); refine wpQuiet_nil ?_
        refine GX.take2 18 rfl rfl rfl (by kernel_rfl) (by kernel_rfl) (by kernel_rfl) rfl hwB ?_
        (first | go_big_quiet_step (fail) | quiet_step (fail)); refine wpQuiet_nil ?_
        refine GX.nil (by kernel_rfl) ?_
        clear Q0 Q1 Q2 hwB
        go_wp2_with fail
        go_meet
        exact HR.out
      · refine xOp_eff rfl rfl rfl (.pointer (some ⟨wr.heap.size, 0, none⟩)) (wr.drew.alloc (.cells (vo zvo) 25)) (by go_simp) (relE_lq below1) ?_
        simp only [Act.put, List.setIfInBounds_toArray, List.set_cons_zero, List.set_cons_succ]
        have g0 : Below wr.heap.size wr (wr.drew.alloc (.cells (vo zvo) 25)) := belowT (belowD (Below.refl _ _) 1) below1
        have hz : (wr.drew.alloc (.cells (vo zvo) 25)).heap.size = wr.heap.size + 1 := (fun (w : World) (o : Obj) => (by simp : (w.alloc o).heap.size = w.heap.size + 1)) wr.drew _
        have hn0 : (wr.drew.alloc (.cells (vo zvo) 25)).heap[wr.heap.size]? = some (.cells (vo zvo) 25 (0, 0)) := heap_alloc_last wr.drew _
        obtain ⟨W5, hW5⟩ : ∃ W, W = wr.drew.alloc (.cells (vo zvo) 25) := ⟨_, rfl⟩
        rw [← hW5] at g0 hz hn0 ⊢
        clear hW5
        refine GX.branch1 10 (by kernel_rfl) ?_
        refine xOp_call rfl rfl rfl rfl enters_votePut #[.agg (vo ⟨s, V.out⟩), .int .i64 (j : Int), .agg (rc ρ), .int .u64 (ep.toNat : Int)] rfl ?_
        refine (HP.out _ (slE_keep g0 A.out.s)).mono ?_
        rintro e w4 ⟨s2, rfl, hs2, g2, hb2⟩
        refine ⟨_, rfl, g2, ?_⟩
        simp only [Act.put, List.setIfInBounds_toArray, List.set_cons_zero, List.set_cons_succ]
        have hn := blk_keep g2 hn0
        have yw := wrA_block hn (vo_size _)
        refine GX.take2 11 rfl rfl rfl (by kernel_rfl) (by kernel_rfl) (by kernel_rfl) rfl hwB ?_
        (first | go_big_quiet_step (fail) | quiet_step (fail)); refine wpQuiet_nil ?_
        refine GX.take2 12 rfl rfl rfl (by kernel_rfl) (by kernel_rfl) (by kernel_rfl) rfl hwB ?_
        (first | go_big_quiet_step (fail) | quiet_step (fail)); refine wpQuiet_nil ?_
        refine GX.take2 13 rfl rfl rfl (by kernel_rfl) (by kernel_rfl) (by kernel_rfl) rfl hwB ?_
        (first | go_big_quiet_step (fail) | quiet_step (fail)); refine wpQuiet_nil ?_
        refine GX.take2 14 rfl rfl rfl (by kernel_rfl) (by kernel_rfl) (by kernel_rfl) rfl hwB ?_
        (first | go_big_quiet_step (fail) | quiet_step (fail)); refine wpQuiet_nil ?_
        refine GX.branch1 16 (by kernel_rfl) ?_
        refine xOp_store rfl rfl rfl (stA w4 (.pointer (some ⟨wr.heap.size, 0, none⟩)) (.agg (vo ⟨s2, X.out⟩))) (by go_simp) (relE_tail (by kernel_rfl) (below_stA (Below.refl _ _) (Nat.le_refl _))) ?_
        simp only [Act.put]
        have HR : Hid (CutL wr X K s (.pointer (some ⟨wr.heap.size, 0, none⟩)) (.int .i64 (K : Int)) (.int .i64 0) (stA w4 (.pointer (some ⟨wr.heap.size, 0, none⟩)) (.agg (vo ⟨s2, X.out⟩)))) := ⟨_, s2, rfl, rfl, rfl, heap_putV hn (by rw [vo_size, vo_size]), slE_put_vo (by decide) hs2 hn, (Nat.le_refl _), below_stA (belowT g0 g2) (Nat.le_refl _), fun b hb => (hb2 b hb).imp id (fun h => by omega)⟩
        clear yw hn
        refine GX.take2 17 rfl rfl rfl (by kernel_rfl) (by kernel_rfl) (by kernel_rfl) rfl hwB ?_
        (first | go_big_quiet_step (fail) | quiet_step (fail)); refine wpQuiet_nil ?_
        refine GX.take2 18 rfl rfl rfl (by kernel_rfl) (by kernel_rfl) (by kernel_rfl) rfl hwB ?_
        (first | go_big_quiet_step (fail) | quiet_step (fail)); refine wpQuiet_nil ?_
        refine GX.nil (by kernel_rfl) ?_
        clear Q0 Q1 Q2 hwB
        go_wp2_with fail
        go_meet
        exact HR.out
    case rest =>
      obtain ⟨T, ⟨p2, n2, c2⟩, rfl, rfl, rfl, hT, hS, hle, hb, ho⟩ := hcut
      have HXl : Hid (X.l.length = N) := by show _ = _; rw [HX.out, step_len]; exact HLv.out.len
      have l2 := sv_lenT hS
      rw [HXl.out] at l2
      dsimp only at l2
      subst l2
      have B := Lib.hid (show Vw w wc T ⟨p2, N, c2⟩ X from ⟨hT, hS, belowT A.out.g hb⟩)
      replace A := Lib.hid (A.out.keep hb)
      replace F := Lib.hid (F.out.keep hb)
      have HNB : Hid ((sv ⟨p2, N, c2⟩).ownBlock ≠ some T1) := fun e => by
        rcases ho _ e with h | h
        · exact HNA.out h
        · have := H1lt.out; omega
      have HTn : Hid (T ≠ T1) := by show _ ≠ _; have := H1lt.out; omega
      have HTm : Hid (T ≠ T0) := by show _ ≠ _; have := H0lt.out; omega
      clear hT hS hle hb ho z1 yr ye
      obtain ⟨hs, hhs⟩ : ∃ hs, hs = want.has := ⟨_, rfl⟩
      obtain ⟨E, hE⟩ : ∃ E, E = want.epoch.toNat := ⟨_, rfl⟩
      obtain ⟨σ, hσ⟩ : ∃ σ, σ = want.root := ⟨_, rfl⟩
      rw [← hhs, ← hE, ← hσ] at HFt
      have Hhs := Lib.hid hhs
      have HEe := Lib.hid hE
      have Hσ := Lib.hid hσ
      clear hhs hE hσ
      cases tb
      rotate_left
      · skip
        have hf : K = 0 := HFt.out.trans (if_pos rfl)
        have hk : fateV V j ρ ep = 0 := HKe.out.symm.trans hf
        have HLv2 : Hid (Lv X N j true want) := by show Lv _ _ _ _ _; rw [HX.out]; exact HLv.out.zero hk
        clear hk HKe HFt
        subst hf
        go_wp2_with fail
        obtain ⟨c0, c1, c2', _, _⟩ := lt_cells F.out.x
        rw [← Hhs.out] at c0
        rw [← Hσ.out] at c1
        rw [← HEe.out] at c2'
        have yr := F.out.r
        have ye := F.out.e
        have L0 := fun p : Wd wc.drew => wd_cell c0 p
        have L1 := fun p : Wd wc.drew => wd_ld c1 (by decide) p
        have L2 := fun p : Wd wc.drew => wd_cell c2' p
        have L3 := fun p : Wd wc.drew => wd_ld yr (by decide) p
        have L4 := fun p : Wd wc.drew => wd_cell ye p
        clear c0 c1 c2' yr ye
        refine wp_region_lex [] (by kernel_rfl) (by kernel_rfl) (by kernel_rfl) ?_
        repeat (first | (refine wpXL_quiet rfl rfl _ cls_begin ?_; (first | go_big_quiet_step (fail) | quiet_step (fail)); refine wpQuiet_nil ?_) | refine wpXL_skip rfl ?_)
        refine wpXL_nil ?_
        clear L0 L1 L2 L3 L4
        have gd : Below wc.heap.size wc wc.drew := belowD (Below.refl _ _) 1
        replace A := Lib.hid (A.out.keep gd)
        replace B := Lib.hid (B.out.keep gd)
        replace F := Lib.hid (F.out.keep gd)
        obtain ⟨wd, hwd⟩ : ∃ W, W = wc.drew := ⟨_, rfl⟩
        rw [← hwd] at A B F ⊢
        clear hwd gd
        go_wp2_with fail
        obtain ⟨c0, c1, c2', _, _⟩ := lt_cells F.out.x
        rw [← Hhs.out] at c0
        rw [← Hσ.out] at c1
        rw [← HEe.out] at c2'
        have yr := F.out.r
        have ye := F.out.e
        have L0 := fun p : Wd wd.drew => wd_cell c0 p
        have L1 := fun p : Wd wd.drew => wd_ld c1 (by decide) p
        have L2 := fun p : Wd wd.drew => wd_cell c2' p
        have L3 := fun p : Wd wd.drew => wd_ld yr (by decide) p
        have L4 := fun p : Wd wd.drew => wd_cell ye p
        clear c0 c1 c2' yr ye
        refine wp_region_lex [] (by kernel_rfl) (by kernel_rfl) (by kernel_rfl) ?_
        repeat (first | (refine wpXL_quiet rfl rfl _ cls_begin ?_; (first | go_big_quiet_step (fail) | quiet_step (fail)); refine wpQuiet_nil ?_) | refine wpXL_skip rfl ?_)
        refine wpXL_nil ?_
        clear L0 L1 L2 L3 L4
        have gd : Below wd.heap.size wd wd.drew := belowD (Below.refl _ _) 1
        replace A := Lib.hid (A.out.keep gd)
        replace B := Lib.hid (B.out.keep gd)
        replace F := Lib.hid (F.out.keep gd)
        obtain ⟨we, hwd⟩ : ∃ W, W = wd.drew := ⟨_, rfl⟩
        rw [← hwd] at A B F ⊢
        clear hwd gd
        go_wp2_with fail
        have X6 := Lib.hid F.out.x
        obtain ⟨W6, rfl⟩ : ∃ W, W = we := ⟨_, rfl⟩
        have HM := Lib.hid (fun s W (h : SlE Elt W (sv s) X.l) => HH.out.may s X W h)
        rw [HLv2.out.may] at HM
        obtain ⟨b4, o4, rfl, _, q4⟩ := lats_ptr B.out.s (by rw [HXl.out]; have := Hj.out; omega)
        have yb := lats_ld q4 (i := j) (by rw [HXl.out]; exact Hj.out)
        rw [HLv2.out.lat] at yb
        have z0 := B.out.z0
        rw [sv_mk] at z0
        have z1 := B.out.z1
        have zo := B.out.zo
        have u0 := ldA_block X6.out (lt_size _)
        obtain ⟨m6, hm6⟩ : ∃ m, m = X.out.toNat := ⟨_, rfl⟩
        rw [← hm6] at zo
        have t7' : decide (0 < m6) = true := by rw [hm6]; exact HLv2.out.pos
        have t7 : decide ((0 : Int) < (m6 : Int)) = true := by rw [← t7']; exact decide_eq_decide.2 (by omega)
        clear q4 hm6
        have L0 := fun p : Wd W6.drew => wd_ld z1 (by decide) p
        have L1 := fun p : Wd W6.drew => wd_cell z0 p
        have L2 := fun p : Wd W6.drew => wd_ld yb (by decide) p
        have L3 := fun p : Wd W6.drew => wd_ld u0 (by decide) p
        have L4 := fun p : Wd W6.drew => wd_cell zo p
        clear z0 z1 zo yb u0
        refine wp_region_lex [9] (by kernel_rfl) (by kernel_rfl) (by kernel_rfl) ?_
        repeat (first | (refine wpXL_quiet rfl rfl _ cls_begin ?_; (first | go_big_quiet_step (fail) | quiet_step (fail)); refine wpQuiet_nil ?_) | refine wpXL_skip rfl ?_)
        refine wpXL_call rfl rfl rfl enters_voteMay #[.agg (vo ⟨⟨some ⟨b4, o4, none⟩, N, c2⟩, X.out⟩)] rfl ?_
        refine (HM.out _ _ (slE_keep (belowD (Below.refl _ _) 1) B.out.s)).mono ?_
        rintro e u ⟨rfl, g⟩
        refine ⟨_, rfl, g, ?_⟩
        simp only [Act.put, List.setIfInBounds_toArray, List.set_cons_zero, List.set_cons_succ]
        have G6 : Below W6.heap.size W6 u := belowT (belowD (Below.refl _ _) 1) g
        clear g
        repeat (first | (refine wpXL_quiet rfl rfl _ cls_begin ?_; (first | go_big_quiet_step (fail) | quiet_step (fail)); refine wpQuiet_nil ?_) | refine wpXL_skip rfl ?_)
        refine wpXL_nil ?_
        clear L0 L1 L2 L3 L4
        replace A := Lib.hid (A.out.keep G6)
        replace B := Lib.hid (B.out.keep G6)
        replace X6 := Lib.hid (blk_keep G6 X6.out)
        clear G6
        have z1 := B.out.z1
        have yw := wrA_block A.out.box (vo_size _)
        go_wp2_with fail
        go_roundw
        case rel => exact ⟨y + 1, HLT.out, by go_num, ⟨some ⟨b4, o4, none⟩, N, c2⟩, X, true, want, rfl, ⟨heap_putV A.out.box (by rw [vo_size, vo_size]), slE_put_vo (by decide) B.out.s A.out.box, below_stA B.out.g HT0.out⟩, (heap_stA (by have := HT01.out; omega)).trans X6.out, HNB.out, HLv2.out⟩
        case measure => simp [intOf]; have := HLT.out; omega
      cases hs
      · skip
        have hf : K = 1 := (HFt.out.trans (if_neg Bool.false_ne_true)).trans ((if_neg (fun h => by cases h.1)).trans (if_neg (fun h => by cases h.1)))
        have hk : fateV V j ρ ep = 1 := HKe.out.symm.trans hf
        have HLv2 : Hid (Lv X N j false ⟨true, ρ, ep⟩) := by show Lv _ _ _ _ _; rw [HX.out]; exact HLv.out.one Hj.out hk
        clear hk HKe HFt
        subst hf
        go_wp2_with fail
        obtain ⟨c0, c1, c2', _, _⟩ := lt_cells F.out.x
        rw [← Hhs.out] at c0
        rw [← Hσ.out] at c1
        rw [← HEe.out] at c2'
        have yr := F.out.r
        have ye := F.out.e
        have L0 := fun p : Wd wc.drew => wd_cell c0 p
        have L1 := fun p : Wd wc.drew => wd_ld c1 (by decide) p
        have L2 := fun p : Wd wc.drew => wd_cell c2' p
        have L3 := fun p : Wd wc.drew => wd_ld yr (by decide) p
        have L4 := fun p : Wd wc.drew => wd_cell ye p
        clear c0 c1 c2' yr ye
        refine wp_region_lex [] (by kernel_rfl) (by kernel_rfl) (by kernel_rfl) ?_
        repeat (first | (refine wpXL_quiet rfl rfl _ cls_begin ?_; (first | go_big_quiet_step (fail) | quiet_step (fail)); refine wpQuiet_nil ?_) | refine wpXL_skip rfl ?_)
        refine wpXL_nil ?_
        clear L0 L1 L2 L3 L4
        have gd : Below wc.heap.size wc wc.drew := belowD (Below.refl _ _) 1
        replace A := Lib.hid (A.out.keep gd)
        replace B := Lib.hid (B.out.keep gd)
        replace F := Lib.hid (F.out.keep gd)
        obtain ⟨wd, hwd⟩ : ∃ W, W = wc.drew := ⟨_, rfl⟩
        rw [← hwd] at A B F ⊢
        clear hwd gd
        go_wp2_with fail
        obtain ⟨c0, c1, c2', _, _⟩ := lt_cells F.out.x
        rw [← Hhs.out] at c0
        rw [← Hσ.out] at c1
        rw [← HEe.out] at c2'
        have yr := F.out.r
        have ye := F.out.e
        have L0 := fun p : Wd wd.drew => wd_cell c0 p
        have L1 := fun p : Wd wd.drew => wd_ld c1 (by decide) p
        have L2 := fun p : Wd wd.drew => wd_cell c2' p
        have L3 := fun p : Wd wd.drew => wd_ld yr (by decide) p
        have L4 := fun p : Wd wd.drew => wd_cell ye p
        clear c0 c1 c2' yr ye
        refine wp_region_lex [] (by kernel_rfl) (by kernel_rfl) (by kernel_rfl) ?_
        repeat (first | (refine wpXL_quiet rfl rfl _ cls_begin ?_; (first | go_big_quiet_step (fail) | quiet_step (fail)); refine wpQuiet_nil ?_) | refine wpXL_skip rfl ?_)
        refine wpXL_nil ?_
        clear L0 L1 L2 L3 L4
        have gd : Below wd.heap.size wd wd.drew := belowD (Below.refl _ _) 1
        replace A := Lib.hid (A.out.keep gd)
        replace B := Lib.hid (B.out.keep gd)
        replace F := Lib.hid (F.out.keep gd)
        obtain ⟨we, hwd⟩ : ∃ W, W = wd.drew := ⟨_, rfl⟩
        rw [← hwd] at A B F ⊢
        clear hwd gd
        go_wp2_with fail
        have hwB : T1 ≤ we.heap.size := Nat.le_of_lt (Array.getElem?_eq_some_iff.1 F.out.x).1
        have Q0 := wd_ld F.out.r (by decide)
        have Q1 := wd_cell F.out.e
        have gd : Below we.heap.size we we.drew := belowD (Below.refl _ _) 1
        replace A := Lib.hid (A.out.keep gd)
        replace B := Lib.hid (B.out.keep gd)
        replace F := Lib.hid (F.out.keep gd)
        have yw := wrA_block F.out.x (lt_size _)
        clear gd
        refine wp_region_lexT T1 [3, 7] [9] (by kernel_rfl) (by kernel_rfl) (by kernel_rfl) ?_
        refine wpXT_quiet2 rfl rfl rfl hwB ?_
        (first | go_big_quiet_step (fail) | quiet_step (fail)); refine wpQuiet_nil ?_
        refine wpXT_quiet2 rfl rfl rfl hwB ?_
        (first | go_big_quiet_step (fail) | quiet_step (fail)); refine wpQuiet_nil ?_
        refine wpXT_quiet2 rfl rfl rfl hwB ?_
        (first | go_big_quiet_step (fail) | quiet_step (fail)); refine wpQuiet_nil ?_
        refine wpXT_quiet1 rfl rfl rfl hwB ?_
        (first | go_big_quiet_step (fail) | quiet_step (fail)); refine wpQuiet_nil ?_
        refine wpXT_quiet2 rfl rfl rfl hwB ?_
        (first | go_big_quiet_step (fail) | quiet_step (fail)); refine wpQuiet_nil ?_
        refine wpXT_quiet2 rfl rfl rfl hwB ?_
        (first | go_big_quiet_step (fail) | quiet_step (fail)); refine wpQuiet_nil ?_
        refine wpXT_quiet2 rfl rfl rfl hwB ?_
        (first | go_big_quiet_step (fail) | quiet_step (fail)); refine wpQuiet_nil ?_
        refine wpXT_quiet1 rfl rfl rfl hwB ?_
        (first | go_big_quiet_step (fail) | quiet_step (fail)); refine wpQuiet_nil ?_
        refine wpXT_quiet2 rfl rfl rfl hwB ?_
        (first | go_big_quiet_step (fail) | quiet_step (fail)); refine wpQuiet_nil ?_
        refine wpXT_store rfl rfl (stA we.drew (.pointer (some ⟨T1, 0, none⟩)) (.agg (lt ⟨true, ρ, ep⟩))) (by go_simp) (relE_tail (by kernel_rfl) (below_stA (Below.refl _ _) (Nat.le_refl _))) ?_
        simp only [Act.put]
        refine wpXT_nil ?_
        clear Q0 Q1 yw hwB
        have B6 := vw_put1 (y := .agg (lt ⟨true, ρ, ep⟩)) B.out HTn.out HNB.out (Nat.le_trans HT0.out (Nat.le_of_lt HT01.out))
        have A6 := vw_put1 (y := .agg (lt ⟨true, ρ, ep⟩)) A.out (by have := HT01.out; omega) HNA.out (Nat.le_trans HT0.out (Nat.le_of_lt HT01.out))
        have X6 := heap_putL (r := ⟨true, ρ, ep⟩) F.out.x
        obtain ⟨W6, hW6⟩ : ∃ W, W = stA we.drew (.pointer (some ⟨T1, 0, none⟩)) (.agg (lt ⟨true, ρ, ep⟩)) := ⟨_, rfl⟩
        rw [← hW6] at A6 B6 X6 ⊢
        clear hW6 A B F
        have A := Lib.hid A6
        have B := Lib.hid B6
        have X6 := Lib.hid X6
        clear A6 B6
        go_wp2_with fail
        have HM := Lib.hid (fun s W (h : SlE Elt W (sv s) X.l) => HH.out.may s X W h)
        rw [HLv2.out.may] at HM
        obtain ⟨b4, o4, rfl, _, q4⟩ := lats_ptr B.out.s (by rw [HXl.out]; have := Hj.out; omega)
        have yb := lats_ld q4 (i := j) (by rw [HXl.out]; exact Hj.out)
        rw [HLv2.out.lat] at yb
        have z0 := B.out.z0
        rw [sv_mk] at z0
        have z1 := B.out.z1
        have zo := B.out.zo
        have u0 := ldA_block X6.out (lt_size _)
        obtain ⟨m6, hm6⟩ : ∃ m, m = X.out.toNat := ⟨_, rfl⟩
        rw [← hm6] at zo
        have t7' : decide (0 < m6) = false := by rw [hm6]; exact HLv2.out.pos
        have t7 : decide ((0 : Int) < (m6 : Int)) = false := by rw [← t7']; exact decide_eq_decide.2 (by omega)
        clear q4 hm6
        have L0 := fun p : Wd W6.drew => wd_ld z1 (by decide) p
        have L1 := fun p : Wd W6.drew => wd_cell z0 p
        have L2 := fun p : Wd W6.drew => wd_ld yb (by decide) p
        have L3 := fun p : Wd W6.drew => wd_ld u0 (by decide) p
        have L4 := fun p : Wd W6.drew => wd_cell zo p
        clear z0 z1 zo yb u0
        refine wp_region_lex [9] (by kernel_rfl) (by kernel_rfl) (by kernel_rfl) ?_
        repeat (first | (refine wpXL_quiet rfl rfl _ cls_begin ?_; (first | go_big_quiet_step (fail) | quiet_step (fail)); refine wpQuiet_nil ?_) | refine wpXL_skip rfl ?_)
        refine wpXL_call rfl rfl rfl enters_voteMay #[.agg (vo ⟨⟨some ⟨b4, o4, none⟩, N, c2⟩, X.out⟩)] rfl ?_
        refine (HM.out _ _ (slE_keep (belowD (Below.refl _ _) 1) B.out.s)).mono ?_
        rintro e u ⟨rfl, g⟩
        refine ⟨_, rfl, g, ?_⟩
        simp only [Act.put, List.setIfInBounds_toArray, List.set_cons_zero, List.set_cons_succ]
        have G6 : Below W6.heap.size W6 u := belowT (belowD (Below.refl _ _) 1) g
        clear g
        repeat (first | (refine wpXL_quiet rfl rfl _ cls_begin ?_; (first | go_big_quiet_step (fail) | quiet_step (fail)); refine wpQuiet_nil ?_) | refine wpXL_skip rfl ?_)
        refine wpXL_nil ?_
        clear L0 L1 L2 L3 L4
        replace A := Lib.hid (A.out.keep G6)
        replace B := Lib.hid (B.out.keep G6)
        replace X6 := Lib.hid (blk_keep G6 X6.out)
        clear G6
        have z1 := B.out.z1
        have yw := wrA_block A.out.box (vo_size _)
        go_wp2_with fail
        go_roundw
        case rel => exact ⟨y + 1, HLT.out, by go_num, ⟨some ⟨b4, o4, none⟩, N, c2⟩, X, false, ⟨true, ρ, ep⟩, rfl, ⟨heap_putV A.out.box (by rw [vo_size, vo_size]), slE_put_vo (by decide) B.out.s A.out.box, below_stA B.out.g HT0.out⟩, (heap_stA (by have := HT01.out; omega)).trans X6.out, HNB.out, HLv2.out⟩
        case measure => simp [intOf]; have := HLT.out; omega
      by_cases h1 : E < ep.toNat
      · skip
        have hf : K = 1 := (HFt.out.trans (if_neg Bool.false_ne_true)).trans ((if_neg (fun h => h.2.elim (fun q => by omega) (fun q => by omega))).trans (if_neg (fun h => by omega)))
        have hk : fateV V j ρ ep = 1 := HKe.out.symm.trans hf
        have HLv2 : Hid (Lv X N j false ⟨true, ρ, ep⟩) := by show Lv _ _ _ _ _; rw [HX.out]; exact HLv.out.one Hj.out hk
        clear hk HKe HFt
        subst hf
        have t2 : ((E : Int) == (ep.toNat : Int)) = false := by rw [beq_eq_false_iff_ne]; omega
        have t2' : (E == ep.toNat) = false := by rw [beq_eq_false_iff_ne]; omega
        have t4 : decide (E = ep.toNat) = false := decide_eq_false (by omega)
        have d1 : decide ((E : Int) < (ep.toNat : Int)) = true := decide_eq_true (by omega)
        have d1' : decide (E < ep.toNat) = true := decide_eq_true (by omega)
        clear h1
        go_wp2_with fail
        obtain ⟨c0, c1, c2', _, _⟩ := lt_cells F.out.x
        rw [← Hhs.out] at c0
        rw [← Hσ.out] at c1
        rw [← HEe.out] at c2'
        have yr := F.out.r
        have ye := F.out.e
        have L0 := fun p : Wd wc.drew => wd_cell c0 p
        have L1 := fun p : Wd wc.drew => wd_ld c1 (by decide) p
        have L2 := fun p : Wd wc.drew => wd_cell c2' p
        have L3 := fun p : Wd wc.drew => wd_ld yr (by decide) p
        have L4 := fun p : Wd wc.drew => wd_cell ye p
        clear c0 c1 c2' yr ye
        refine wp_region_lex [] (by kernel_rfl) (by kernel_rfl) (by kernel_rfl) ?_
        repeat (first | (refine wpXL_quiet rfl rfl _ cls_begin ?_; (first | go_big_quiet_step (fail) | quiet_step (fail)); refine wpQuiet_nil ?_) | refine wpXL_skip rfl ?_)
        refine wpXL_nil ?_
        clear L0 L1 L2 L3 L4
        have gd : Below wc.heap.size wc wc.drew := belowD (Below.refl _ _) 1
        replace A := Lib.hid (A.out.keep gd)
        replace B := Lib.hid (B.out.keep gd)
        replace F := Lib.hid (F.out.keep gd)
        obtain ⟨wd, hwd⟩ : ∃ W, W = wc.drew := ⟨_, rfl⟩
        rw [← hwd] at A B F ⊢
        clear hwd gd
        go_wp2_with fail
        obtain ⟨c0, c1, c2', _, _⟩ := lt_cells F.out.x
        rw [← Hhs.out] at c0
        rw [← Hσ.out] at c1
        rw [← HEe.out] at c2'
        have yr := F.out.r
        have ye := F.out.e
        have L0 := fun p : Wd wd.drew => wd_cell c0 p
        have L1 := fun p : Wd wd.drew => wd_ld c1 (by decide) p
        have L2 := fun p : Wd wd.drew => wd_cell c2' p
        have L3 := fun p : Wd wd.drew => wd_ld yr (by decide) p
        have L4 := fun p : Wd wd.drew => wd_cell ye p
        clear c0 c1 c2' yr ye
        refine wp_region_lex [] (by kernel_rfl) (by kernel_rfl) (by kernel_rfl) ?_
        repeat (first | (refine wpXL_quiet rfl rfl _ cls_begin ?_; (first | go_big_quiet_step (fail) | quiet_step (fail)); refine wpQuiet_nil ?_) | refine wpXL_skip rfl ?_)
        refine wpXL_nil ?_
        clear L0 L1 L2 L3 L4
        have gd : Below wd.heap.size wd wd.drew := belowD (Below.refl _ _) 1
        replace A := Lib.hid (A.out.keep gd)
        replace B := Lib.hid (B.out.keep gd)
        replace F := Lib.hid (F.out.keep gd)
        obtain ⟨we, hwd⟩ : ∃ W, W = wd.drew := ⟨_, rfl⟩
        rw [← hwd] at A B F ⊢
        clear hwd gd
        go_wp2_with fail
        have hwB : T1 ≤ we.heap.size := Nat.le_of_lt (Array.getElem?_eq_some_iff.1 F.out.x).1
        have Q0 := wd_ld F.out.r (by decide)
        have Q1 := wd_cell F.out.e
        have gd : Below we.heap.size we we.drew := belowD (Below.refl _ _) 1
        replace A := Lib.hid (A.out.keep gd)
        replace B := Lib.hid (B.out.keep gd)
        replace F := Lib.hid (F.out.keep gd)
        have yw := wrA_block F.out.x (lt_size _)
        clear gd
        refine wp_region_lexT T1 [3, 7] [9] (by kernel_rfl) (by kernel_rfl) (by kernel_rfl) ?_
        refine wpXT_quiet2 rfl rfl rfl hwB ?_
        (first | go_big_quiet_step (fail) | quiet_step (fail)); refine wpQuiet_nil ?_
        refine wpXT_quiet2 rfl rfl rfl hwB ?_
        (first | go_big_quiet_step (fail) | quiet_step (fail)); refine wpQuiet_nil ?_
        refine wpXT_quiet2 rfl rfl rfl hwB ?_
        (first | go_big_quiet_step (fail) | quiet_step (fail)); refine wpQuiet_nil ?_
        refine wpXT_quiet1 rfl rfl rfl hwB ?_
        (first | go_big_quiet_step (fail) | quiet_step (fail)); refine wpQuiet_nil ?_
        refine wpXT_quiet2 rfl rfl rfl hwB ?_
        (first | go_big_quiet_step (fail) | quiet_step (fail)); refine wpQuiet_nil ?_
        refine wpXT_quiet2 rfl rfl rfl hwB ?_
        (first | go_big_quiet_step (fail) | quiet_step (fail)); refine wpQuiet_nil ?_
        refine wpXT_quiet2 rfl rfl rfl hwB ?_
        (first | go_big_quiet_step (fail) | quiet_step (fail)); refine wpQuiet_nil ?_
        refine wpXT_quiet1 rfl rfl rfl hwB ?_
        (first | go_big_quiet_step (fail) | quiet_step (fail)); refine wpQuiet_nil ?_
        refine wpXT_quiet2 rfl rfl rfl hwB ?_
        (first | go_big_quiet_step (fail) | quiet_step (fail)); refine wpQuiet_nil ?_
        refine wpXT_store rfl rfl (stA we.drew (.pointer (some ⟨T1, 0, none⟩)) (.agg (lt ⟨true, ρ, ep⟩))) (by go_simp) (relE_tail (by kernel_rfl) (below_stA (Below.refl _ _) (Nat.le_refl _))) ?_
        simp only [Act.put]
        refine wpXT_nil ?_
        clear Q0 Q1 yw hwB
        have B6 := vw_put1 (y := .agg (lt ⟨true, ρ, ep⟩)) B.out HTn.out HNB.out (Nat.le_trans HT0.out (Nat.le_of_lt HT01.out))
        have A6 := vw_put1 (y := .agg (lt ⟨true, ρ, ep⟩)) A.out (by have := HT01.out; omega) HNA.out (Nat.le_trans HT0.out (Nat.le_of_lt HT01.out))
        have X6 := heap_putL (r := ⟨true, ρ, ep⟩) F.out.x
        obtain ⟨W6, hW6⟩ : ∃ W, W = stA we.drew (.pointer (some ⟨T1, 0, none⟩)) (.agg (lt ⟨true, ρ, ep⟩)) := ⟨_, rfl⟩
        rw [← hW6] at A6 B6 X6 ⊢
        clear hW6 A B F
        have A := Lib.hid A6
        have B := Lib.hid B6
        have X6 := Lib.hid X6
        clear A6 B6
        go_wp2_with fail
        have HM := Lib.hid (fun s W (h : SlE Elt W (sv s) X.l) => HH.out.may s X W h)
        rw [HLv2.out.may] at HM
        obtain ⟨b4, o4, rfl, _, q4⟩ := lats_ptr B.out.s (by rw [HXl.out]; have := Hj.out; omega)
        have yb := lats_ld q4 (i := j) (by rw [HXl.out]; exact Hj.out)
        rw [HLv2.out.lat] at yb
        have z0 := B.out.z0
        rw [sv_mk] at z0
        have z1 := B.out.z1
        have zo := B.out.zo
        have u0 := ldA_block X6.out (lt_size _)
        obtain ⟨m6, hm6⟩ : ∃ m, m = X.out.toNat := ⟨_, rfl⟩
        rw [← hm6] at zo
        have t7' : decide (0 < m6) = false := by rw [hm6]; exact HLv2.out.pos
        have t7 : decide ((0 : Int) < (m6 : Int)) = false := by rw [← t7']; exact decide_eq_decide.2 (by omega)
        clear q4 hm6
        have L0 := fun p : Wd W6.drew => wd_ld z1 (by decide) p
        have L1 := fun p : Wd W6.drew => wd_cell z0 p
        have L2 := fun p : Wd W6.drew => wd_ld yb (by decide) p
        have L3 := fun p : Wd W6.drew => wd_ld u0 (by decide) p
        have L4 := fun p : Wd W6.drew => wd_cell zo p
        clear z0 z1 zo yb u0
        refine wp_region_lex [9] (by kernel_rfl) (by kernel_rfl) (by kernel_rfl) ?_
        repeat (first | (refine wpXL_quiet rfl rfl _ cls_begin ?_; (first | go_big_quiet_step (fail) | quiet_step (fail)); refine wpQuiet_nil ?_) | refine wpXL_skip rfl ?_)
        refine wpXL_call rfl rfl rfl enters_voteMay #[.agg (vo ⟨⟨some ⟨b4, o4, none⟩, N, c2⟩, X.out⟩)] rfl ?_
        refine (HM.out _ _ (slE_keep (belowD (Below.refl _ _) 1) B.out.s)).mono ?_
        rintro e u ⟨rfl, g⟩
        refine ⟨_, rfl, g, ?_⟩
        simp only [Act.put, List.setIfInBounds_toArray, List.set_cons_zero, List.set_cons_succ]
        have G6 : Below W6.heap.size W6 u := belowT (belowD (Below.refl _ _) 1) g
        clear g
        repeat (first | (refine wpXL_quiet rfl rfl _ cls_begin ?_; (first | go_big_quiet_step (fail) | quiet_step (fail)); refine wpQuiet_nil ?_) | refine wpXL_skip rfl ?_)
        refine wpXL_nil ?_
        clear L0 L1 L2 L3 L4
        replace A := Lib.hid (A.out.keep G6)
        replace B := Lib.hid (B.out.keep G6)
        replace X6 := Lib.hid (blk_keep G6 X6.out)
        clear G6
        have z1 := B.out.z1
        have yw := wrA_block A.out.box (vo_size _)
        go_wp2_with fail
        go_roundw
        case rel => exact ⟨y + 1, HLT.out, by go_num, ⟨some ⟨b4, o4, none⟩, N, c2⟩, X, false, ⟨true, ρ, ep⟩, rfl, ⟨heap_putV A.out.box (by rw [vo_size, vo_size]), slE_put_vo (by decide) B.out.s A.out.box, below_stA B.out.g HT0.out⟩, (heap_stA (by have := HT01.out; omega)).trans X6.out, HNB.out, HLv2.out⟩
        case measure => simp [intOf]; have := HLT.out; omega
      by_cases h2 : E = ep.toNat
      rotate_left
      · skip
        have hf : K = 0 := (HFt.out.trans (if_neg Bool.false_ne_true)).trans (if_pos ⟨rfl, .inl (by omega)⟩)
        have hk : fateV V j ρ ep = 0 := HKe.out.symm.trans hf
        have HLv2 : Hid (Lv X N j false want) := by show Lv _ _ _ _ _; rw [HX.out]; exact HLv.out.zero hk
        clear hk HKe HFt
        subst hf
        have t2 : ((E : Int) == (ep.toNat : Int)) = false := by rw [beq_eq_false_iff_ne]; omega
        have t2' : (E == ep.toNat) = false := by rw [beq_eq_false_iff_ne]; omega
        have t4 : decide (E = ep.toNat) = false := decide_eq_false (by omega)
        have d1 : decide ((E : Int) < (ep.toNat : Int)) = false := decide_eq_false (by omega)
        have d1' : decide (E < ep.toNat) = false := decide_eq_false (by omega)
        clear h1 h2
        go_wp2_with fail
        obtain ⟨c0, c1, c2', _, _⟩ := lt_cells F.out.x
        rw [← Hhs.out] at c0
        rw [← Hσ.out] at c1
        rw [← HEe.out] at c2'
        have yr := F.out.r
        have ye := F.out.e
        have L0 := fun p : Wd wc.drew => wd_cell c0 p
        have L1 := fun p : Wd wc.drew => wd_ld c1 (by decide) p
        have L2 := fun p : Wd wc.drew => wd_cell c2' p
        have L3 := fun p : Wd wc.drew => wd_ld yr (by decide) p
        have L4 := fun p : Wd wc.drew => wd_cell ye p
        clear c0 c1 c2' yr ye
        refine wp_region_lex [] (by kernel_rfl) (by kernel_rfl) (by kernel_rfl) ?_
        repeat (first | (refine wpXL_quiet rfl rfl _ cls_begin ?_; (first | go_big_quiet_step (fail) | quiet_step (fail)); refine wpQuiet_nil ?_) | refine wpXL_skip rfl ?_)
        refine wpXL_nil ?_
        clear L0 L1 L2 L3 L4
        have gd : Below wc.heap.size wc wc.drew := belowD (Below.refl _ _) 1
        replace A := Lib.hid (A.out.keep gd)
        replace B := Lib.hid (B.out.keep gd)
        replace F := Lib.hid (F.out.keep gd)
        obtain ⟨wd, hwd⟩ : ∃ W, W = wc.drew := ⟨_, rfl⟩
        rw [← hwd] at A B F ⊢
        clear hwd gd
        go_wp2_with fail
        obtain ⟨c0, c1, c2', _, _⟩ := lt_cells F.out.x
        rw [← Hhs.out] at c0
        rw [← Hσ.out] at c1
        rw [← HEe.out] at c2'
        have yr := F.out.r
        have ye := F.out.e
        have L0 := fun p : Wd wd.drew => wd_cell c0 p
        have L1 := fun p : Wd wd.drew => wd_ld c1 (by decide) p
        have L2 := fun p : Wd wd.drew => wd_cell c2' p
        have L3 := fun p : Wd wd.drew => wd_ld yr (by decide) p
        have L4 := fun p : Wd wd.drew => wd_cell ye p
        clear c0 c1 c2' yr ye
        refine wp_region_lex [] (by kernel_rfl) (by kernel_rfl) (by kernel_rfl) ?_
        repeat (first | (refine wpXL_quiet rfl rfl _ cls_begin ?_; (first | go_big_quiet_step (fail) | quiet_step (fail)); refine wpQuiet_nil ?_) | refine wpXL_skip rfl ?_)
        refine wpXL_nil ?_
        clear L0 L1 L2 L3 L4
        have gd : Below wd.heap.size wd wd.drew := belowD (Below.refl _ _) 1
        replace A := Lib.hid (A.out.keep gd)
        replace B := Lib.hid (B.out.keep gd)
        replace F := Lib.hid (F.out.keep gd)
        obtain ⟨we, hwd⟩ : ∃ W, W = wd.drew := ⟨_, rfl⟩
        rw [← hwd] at A B F ⊢
        clear hwd gd
        go_wp2_with fail
        have X6 := Lib.hid F.out.x
        obtain ⟨W6, rfl⟩ : ∃ W, W = we := ⟨_, rfl⟩
        have HM := Lib.hid (fun s W (h : SlE Elt W (sv s) X.l) => HH.out.may s X W h)
        rw [HLv2.out.may] at HM
        obtain ⟨b4, o4, rfl, _, q4⟩ := lats_ptr B.out.s (by rw [HXl.out]; have := Hj.out; omega)
        have yb := lats_ld q4 (i := j) (by rw [HXl.out]; exact Hj.out)
        rw [HLv2.out.lat] at yb
        have z0 := B.out.z0
        rw [sv_mk] at z0
        have z1 := B.out.z1
        have zo := B.out.zo
        have u0 := ldA_block X6.out (lt_size _)
        obtain ⟨m6, hm6⟩ : ∃ m, m = X.out.toNat := ⟨_, rfl⟩
        rw [← hm6] at zo
        have t7' : decide (0 < m6) = false := by rw [hm6]; exact HLv2.out.pos
        have t7 : decide ((0 : Int) < (m6 : Int)) = false := by rw [← t7']; exact decide_eq_decide.2 (by omega)
        clear q4 hm6
        have L0 := fun p : Wd W6.drew => wd_ld z1 (by decide) p
        have L1 := fun p : Wd W6.drew => wd_cell z0 p
        have L2 := fun p : Wd W6.drew => wd_ld yb (by decide) p
        have L3 := fun p : Wd W6.drew => wd_ld u0 (by decide) p
        have L4 := fun p : Wd W6.drew => wd_cell zo p
        clear z0 z1 zo yb u0
        refine wp_region_lex [9] (by kernel_rfl) (by kernel_rfl) (by kernel_rfl) ?_
        repeat (first | (refine wpXL_quiet rfl rfl _ cls_begin ?_; (first | go_big_quiet_step (fail) | quiet_step (fail)); refine wpQuiet_nil ?_) | refine wpXL_skip rfl ?_)
        refine wpXL_call rfl rfl rfl enters_voteMay #[.agg (vo ⟨⟨some ⟨b4, o4, none⟩, N, c2⟩, X.out⟩)] rfl ?_
        refine (HM.out _ _ (slE_keep (belowD (Below.refl _ _) 1) B.out.s)).mono ?_
        rintro e u ⟨rfl, g⟩
        refine ⟨_, rfl, g, ?_⟩
        simp only [Act.put, List.setIfInBounds_toArray, List.set_cons_zero, List.set_cons_succ]
        have G6 : Below W6.heap.size W6 u := belowT (belowD (Below.refl _ _) 1) g
        clear g
        repeat (first | (refine wpXL_quiet rfl rfl _ cls_begin ?_; (first | go_big_quiet_step (fail) | quiet_step (fail)); refine wpQuiet_nil ?_) | refine wpXL_skip rfl ?_)
        refine wpXL_nil ?_
        clear L0 L1 L2 L3 L4
        replace A := Lib.hid (A.out.keep G6)
        replace B := Lib.hid (B.out.keep G6)
        replace X6 := Lib.hid (blk_keep G6 X6.out)
        clear G6
        have z1 := B.out.z1
        have yw := wrA_block A.out.box (vo_size _)
        go_wp2_with fail
        go_roundw
        case rel => exact ⟨y + 1, HLT.out, by go_num, ⟨some ⟨b4, o4, none⟩, N, c2⟩, X, false, want, rfl, ⟨heap_putV A.out.box (by rw [vo_size, vo_size]), slE_put_vo (by decide) B.out.s A.out.box, below_stA B.out.g HT0.out⟩, (heap_stA (by have := HT01.out; omega)).trans X6.out, HNB.out, HLv2.out⟩
        case measure => simp [intOf]; have := HLT.out; omega
      subst h2
      by_cases h3 : σ = ρ
      · skip
        have hf : K = 0 := (HFt.out.trans (if_neg Bool.false_ne_true)).trans (if_pos ⟨rfl, .inr ⟨rfl, h3⟩⟩)
        have hk : fateV V j ρ ep = 0 := HKe.out.symm.trans hf
        have HLv2 : Hid (Lv X N j false want) := by show Lv _ _ _ _ _; rw [HX.out]; exact HLv.out.zero hk
        clear hk HKe HFt
        subst hf
        have t3 : eqB σ ρ = true := (eqB_iff _ _).2 h3
        clear h1 h3
        go_wp2_with fail
        obtain ⟨c0, c1, c2', _, _⟩ := lt_cells F.out.x
        rw [← Hhs.out] at c0
        rw [← Hσ.out] at c1
        rw [← HEe.out] at c2'
        have yr := F.out.r
        have ye := F.out.e
        have L0 := fun p : Wd wc.drew => wd_cell c0 p
        have L1 := fun p : Wd wc.drew => wd_ld c1 (by decide) p
        have L2 := fun p : Wd wc.drew => wd_cell c2' p
        have L3 := fun p : Wd wc.drew => wd_ld yr (by decide) p
        have L4 := fun p : Wd wc.drew => wd_cell ye p
        clear c0 c1 c2' yr ye
        refine wp_region_lex [] (by kernel_rfl) (by kernel_rfl) (by kernel_rfl) ?_
        repeat (first | (refine wpXL_quiet rfl rfl _ cls_begin ?_; (first | go_big_quiet_step (fail) | quiet_step (fail)); refine wpQuiet_nil ?_) | refine wpXL_skip rfl ?_)
        refine wpXL_nil ?_
        clear L0 L1 L2 L3 L4
        have gd : Below wc.heap.size wc wc.drew := belowD (Below.refl _ _) 1
        replace A := Lib.hid (A.out.keep gd)
        replace B := Lib.hid (B.out.keep gd)
        replace F := Lib.hid (F.out.keep gd)
        obtain ⟨wd, hwd⟩ : ∃ W, W = wc.drew := ⟨_, rfl⟩
        rw [← hwd] at A B F ⊢
        clear hwd gd
        go_wp2_with fail
        obtain ⟨c0, c1, c2', _, _⟩ := lt_cells F.out.x
        rw [← Hhs.out] at c0
        rw [← Hσ.out] at c1
        rw [← HEe.out] at c2'
        have yr := F.out.r
        have ye := F.out.e
        have L0 := fun p : Wd wd.drew => wd_cell c0 p
        have L1 := fun p : Wd wd.drew => wd_ld c1 (by decide) p
        have L2 := fun p : Wd wd.drew => wd_cell c2' p
        have L3 := fun p : Wd wd.drew => wd_ld yr (by decide) p
        have L4 := fun p : Wd wd.drew => wd_cell ye p
        clear c0 c1 c2' yr ye
        refine wp_region_lex [] (by kernel_rfl) (by kernel_rfl) (by kernel_rfl) ?_
        repeat (first | (refine wpXL_quiet rfl rfl _ cls_begin ?_; (first | go_big_quiet_step (fail) | quiet_step (fail)); refine wpQuiet_nil ?_) | refine wpXL_skip rfl ?_)
        refine wpXL_nil ?_
        clear L0 L1 L2 L3 L4
        have gd : Below wd.heap.size wd wd.drew := belowD (Below.refl _ _) 1
        replace A := Lib.hid (A.out.keep gd)
        replace B := Lib.hid (B.out.keep gd)
        replace F := Lib.hid (F.out.keep gd)
        obtain ⟨we, hwd⟩ : ∃ W, W = wd.drew := ⟨_, rfl⟩
        rw [← hwd] at A B F ⊢
        clear hwd gd
        go_wp2_with fail
        have X6 := Lib.hid F.out.x
        obtain ⟨W6, rfl⟩ : ∃ W, W = we := ⟨_, rfl⟩
        have HM := Lib.hid (fun s W (h : SlE Elt W (sv s) X.l) => HH.out.may s X W h)
        rw [HLv2.out.may] at HM
        obtain ⟨b4, o4, rfl, _, q4⟩ := lats_ptr B.out.s (by rw [HXl.out]; have := Hj.out; omega)
        have yb := lats_ld q4 (i := j) (by rw [HXl.out]; exact Hj.out)
        rw [HLv2.out.lat] at yb
        have z0 := B.out.z0
        rw [sv_mk] at z0
        have z1 := B.out.z1
        have zo := B.out.zo
        have u0 := ldA_block X6.out (lt_size _)
        obtain ⟨m6, hm6⟩ : ∃ m, m = X.out.toNat := ⟨_, rfl⟩
        rw [← hm6] at zo
        have t7' : decide (0 < m6) = false := by rw [hm6]; exact HLv2.out.pos
        have t7 : decide ((0 : Int) < (m6 : Int)) = false := by rw [← t7']; exact decide_eq_decide.2 (by omega)
        clear q4 hm6
        have L0 := fun p : Wd W6.drew => wd_ld z1 (by decide) p
        have L1 := fun p : Wd W6.drew => wd_cell z0 p
        have L2 := fun p : Wd W6.drew => wd_ld yb (by decide) p
        have L3 := fun p : Wd W6.drew => wd_ld u0 (by decide) p
        have L4 := fun p : Wd W6.drew => wd_cell zo p
        clear z0 z1 zo yb u0
        refine wp_region_lex [9] (by kernel_rfl) (by kernel_rfl) (by kernel_rfl) ?_
        repeat (first | (refine wpXL_quiet rfl rfl _ cls_begin ?_; (first | go_big_quiet_step (fail) | quiet_step (fail)); refine wpQuiet_nil ?_) | refine wpXL_skip rfl ?_)
        refine wpXL_call rfl rfl rfl enters_voteMay #[.agg (vo ⟨⟨some ⟨b4, o4, none⟩, N, c2⟩, X.out⟩)] rfl ?_
        refine (HM.out _ _ (slE_keep (belowD (Below.refl _ _) 1) B.out.s)).mono ?_
        rintro e u ⟨rfl, g⟩
        refine ⟨_, rfl, g, ?_⟩
        simp only [Act.put, List.setIfInBounds_toArray, List.set_cons_zero, List.set_cons_succ]
        have G6 : Below W6.heap.size W6 u := belowT (belowD (Below.refl _ _) 1) g
        clear g
        repeat (first | (refine wpXL_quiet rfl rfl _ cls_begin ?_; (first | go_big_quiet_step (fail) | quiet_step (fail)); refine wpQuiet_nil ?_) | refine wpXL_skip rfl ?_)
        refine wpXL_nil ?_
        clear L0 L1 L2 L3 L4
        replace A := Lib.hid (A.out.keep G6)
        replace B := Lib.hid (B.out.keep G6)
        replace X6 := Lib.hid (blk_keep G6 X6.out)
        clear G6
        have z1 := B.out.z1
        have yw := wrA_block A.out.box (vo_size _)
        go_wp2_with fail
        go_roundw
        case rel => exact ⟨y + 1, HLT.out, by go_num, ⟨some ⟨b4, o4, none⟩, N, c2⟩, X, false, want, rfl, ⟨heap_putV A.out.box (by rw [vo_size, vo_size]), slE_put_vo (by decide) B.out.s A.out.box, below_stA B.out.g HT0.out⟩, (heap_stA (by have := HT01.out; omega)).trans X6.out, HNB.out, HLv2.out⟩
        case measure => simp [intOf]; have := HLT.out; omega
      · skip
        have hf : K = 2 := (HFt.out.trans (if_neg Bool.false_ne_true)).trans ((if_neg (fun h => h.2.elim (fun q => by omega) (fun q => h3 q.2))).trans (if_pos ⟨rfl, rfl⟩))
        have hk : fateV V j ρ ep = 2 := HKe.out.symm.trans hf
        have HLv2 : Hid (Lv X N j true zlt) := by show Lv _ _ _ _ _; rw [HX.out]; exact HLv.out.two Hj.out hk
        clear hk HKe HFt
        subst hf
        have t3 : eqB σ ρ = false := decide_eq_false h3
        clear h1 h3
        go_wp2_with fail
        obtain ⟨c0, c1, c2', _, _⟩ := lt_cells F.out.x
        rw [← Hhs.out] at c0
        rw [← Hσ.out] at c1
        rw [← HEe.out] at c2'
        have yr := F.out.r
        have ye := F.out.e
        have L0 := fun p : Wd wc.drew => wd_cell c0 p
        have L1 := fun p : Wd wc.drew => wd_ld c1 (by decide) p
        have L2 := fun p : Wd wc.drew => wd_cell c2' p
        have L3 := fun p : Wd wc.drew => wd_ld yr (by decide) p
        have L4 := fun p : Wd wc.drew => wd_cell ye p
        clear c0 c1 c2' yr ye
        refine wp_region_lex [] (by kernel_rfl) (by kernel_rfl) (by kernel_rfl) ?_
        repeat (first | (refine wpXL_quiet rfl rfl _ cls_begin ?_; (first | go_big_quiet_step (fail) | quiet_step (fail)); refine wpQuiet_nil ?_) | refine wpXL_skip rfl ?_)
        refine wpXL_nil ?_
        clear L0 L1 L2 L3 L4
        have gd : Below wc.heap.size wc wc.drew := belowD (Below.refl _ _) 1
        replace A := Lib.hid (A.out.keep gd)
        replace B := Lib.hid (B.out.keep gd)
        replace F := Lib.hid (F.out.keep gd)
        obtain ⟨wd, hwd⟩ : ∃ W, W = wc.drew := ⟨_, rfl⟩
        rw [← hwd] at A B F ⊢
        clear hwd gd
        have yw := wrA_block F.out.x (lt_size _)
        go_wp2_with fail
        clear yw
        have B6 := vw_put1 (y := .agg (lt zlt)) B.out HTn.out HNB.out (Nat.le_trans HT0.out (Nat.le_of_lt HT01.out))
        have A6 := vw_put1 (y := .agg (lt zlt)) A.out (by have := HT01.out; omega) HNA.out (Nat.le_trans HT0.out (Nat.le_of_lt HT01.out))
        have X6 := heap_putL (r := zlt) F.out.x
        obtain ⟨W6, hW6⟩ : ∃ W, W = stA wd (.pointer (some ⟨T1, 0, none⟩)) (.agg (lt zlt)) := ⟨_, rfl⟩
        rw [← hW6] at A6 B6 X6 ⊢
        clear hW6 A B F
        have A := Lib.hid A6
        have B := Lib.hid B6
        have X6 := Lib.hid X6
        clear A6 B6
        have HM := Lib.hid (fun s W (h : SlE Elt W (sv s) X.l) => HH.out.may s X W h)
        rw [HLv2.out.may] at HM
        obtain ⟨b4, o4, rfl, _, q4⟩ := lats_ptr B.out.s (by rw [HXl.out]; have := Hj.out; omega)
        have yb := lats_ld q4 (i := j) (by rw [HXl.out]; exact Hj.out)
        rw [HLv2.out.lat] at yb
        have z0 := B.out.z0
        rw [sv_mk] at z0
        have z1 := B.out.z1
        have zo := B.out.zo
        have u0 := ldA_block X6.out (lt_size _)
        obtain ⟨m6, hm6⟩ : ∃ m, m = X.out.toNat := ⟨_, rfl⟩
        rw [← hm6] at zo
        have t7' : decide (0 < m6) = true := by rw [hm6]; exact HLv2.out.pos
        have t7 : decide ((0 : Int) < (m6 : Int)) = true := by rw [← t7']; exact decide_eq_decide.2 (by omega)
        clear q4 hm6
        have L0 := fun p : Wd W6.drew => wd_ld z1 (by decide) p
        have L1 := fun p : Wd W6.drew => wd_cell z0 p
        have L2 := fun p : Wd W6.drew => wd_ld yb (by decide) p
        have L3 := fun p : Wd W6.drew => wd_ld u0 (by decide) p
        have L4 := fun p : Wd W6.drew => wd_cell zo p
        clear z0 z1 zo yb u0
        refine wp_region_lex [9] (by kernel_rfl) (by kernel_rfl) (by kernel_rfl) ?_
        repeat (first | (refine wpXL_quiet rfl rfl _ cls_begin ?_; (first | go_big_quiet_step (fail) | quiet_step (fail)); refine wpQuiet_nil ?_) | refine wpXL_skip rfl ?_)
        refine wpXL_call rfl rfl rfl enters_voteMay #[.agg (vo ⟨⟨some ⟨b4, o4, none⟩, N, c2⟩, X.out⟩)] rfl ?_
        refine (HM.out _ _ (slE_keep (belowD (Below.refl _ _) 1) B.out.s)).mono ?_
        rintro e u ⟨rfl, g⟩
        refine ⟨_, rfl, g, ?_⟩
        simp only [Act.put, List.setIfInBounds_toArray, List.set_cons_zero, List.set_cons_succ]
        have G6 : Below W6.heap.size W6 u := belowT (belowD (Below.refl _ _) 1) g
        clear g
        repeat (first | (refine wpXL_quiet rfl rfl _ cls_begin ?_; (first | go_big_quiet_step (fail) | quiet_step (fail)); refine wpQuiet_nil ?_) | refine wpXL_skip rfl ?_)
        refine wpXL_nil ?_
        clear L0 L1 L2 L3 L4
        replace A := Lib.hid (A.out.keep G6)
        replace B := Lib.hid (B.out.keep G6)
        replace X6 := Lib.hid (blk_keep G6 X6.out)
        clear G6
        have z1 := B.out.z1
        have yw := wrA_block A.out.box (vo_size _)
        go_wp2_with fail
        go_roundw
        case rel => exact ⟨y + 1, HLT.out, by go_num, ⟨some ⟨b4, o4, none⟩, N, c2⟩, X, true, zlt, rfl, ⟨heap_putV A.out.box (by rw [vo_size, vo_size]), slE_put_vo (by decide) B.out.s A.out.box, below_stA B.out.g HT0.out⟩, (heap_stA (by have := HT01.out; omega)).trans X6.out, HNB.out, HLv2.out⟩
        case measure => simp [intOf]; have := HLT.out; omega
/-- The law. -/
theorem voteLatestL (H : VoteC) (n val : Int) (v1 : Value) (roots : List Rt) (v2 : Value) (epochs : List UInt64) (w : World) (hr : SlE Ert w v1 roots) (he : SlE Enum w v2 epochs) :
    Calls Try.prog 4 #[.int .i64 n, .int .i64 val, v1, v2] w fun e w' => e = .returned (.bool true) ∧ Below w.heap.size w w' := by
  have k1 := hr
  have k2 := he
  obtain ⟨p1, c1, rfl, _⟩ := slE_shape hr
  obtain ⟨p2, c2, rfl, _⟩ := slE_shape he
  exact voteLatest_n H n val p1 _ c1 roots p2 _ c2 epochs w k1 rfl k2 rfl
end Go.Proofs.Ytfmbgpjpkahmnaa
