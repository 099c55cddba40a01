/-
  The law WireTells, walked.
-/
import Derived.Test.YtjdpndclgmdahaaWireS
import Derived.Test.YtjdpndclgmdahaaWireU
namespace Go.Proofs.Ytjdpndclgmdahaa
open Go.RowKit

theorem enters_refPutBlock : ∀ args w, (callFunc 17 args).run Try.prog w = .ok (.enter 17 args) w := enters_f Try.func17 (by kernel_rfl) (by kernel_rfl)

set_option maxRecDepth 100000 in
set_option maxHeartbeats 1000000 in
theorem wireTells_short (x : Blk) (y : At) (p : Option Addr) (cap : Nat) (l : List UInt8) (w : World) (h : SlB w (.slice p l.length cap) l) (hlen : l.length ≤ 300) :
    Calls Try.prog 3 #[.agg (bc x), .agg (ac y), .slice p l.length cap] w fun e w' => e = .returned (.bool true) ∧ Below w.heap.size w w' := by
  have HS := Lib.hid h; clear h
  have z0 : decide ((300 : Int) < (l.length : Int)) = false := by simp; omega
  have HG00 : Hid (Below w.heap.size w ((w.alloc (.cells (bc x) 26)).alloc (.cells (ac y) 30))) := ((Below.refl w.heap.size w).alloc (Nat.le_refl _) _).alloc (by simp) _
  have c7 := fun v W hW => block_any v l W hW
  have c8 := fun v W hW => refBlock_any v l W hW
  have c9 := fun v W hW => att_any v l W hW
  have c10 := fun v W hW => refAtt_any v l W hW
  unfold BlockIs at c7 c8
  unfold AttIs at c9 c10
  have c5 := fun W => putAtt_any y W
  have c6 := fun W => refPutAtt_any y W
  have qb := eqBlk_self (blkOf l)
  have qa := eqAt_self (attOf l)
  generalize blkOf l = X at *
  generalize attOf l = Y at *
  generalize isB l = TB at *
  generalize isA l = TA at *
  generalize okV y.val = TV at *
  have HC5 := Lib.hid c5; have HC6 := Lib.hid c6; have HC7 := Lib.hid c7; have HC8 := Lib.hid c8; have HC9 := Lib.hid c9; have HC10 := Lib.hid c10
  clear c5 c6 c7 c8 c9 c10 hlen
  go_enter Try.func3, Try.ntmps3
  go_wp2_with fail
  refine (awake_any _).mono ?_
  rintro e w0 ⟨rfl, g0⟩
  have lx0 : ldA w0 (.pointer (some ⟨w.heap.size, 0, none⟩)) 66 = some (bc x) := keep g0 (by go_simp)
  have ly0 : ldA w0 (.pointer (some ⟨w.heap.size + 1, 0, none⟩)) 100 = some (ac y) := keep g0 (by go_simp)
  have G0 := Lib.hid (belowT HG00.out g0)
  have LX0 := Lib.hid lx0
  clear g0 lx0
  go_wp2_with fail
  refine (HC5.out _).mono ?_
  rintro e w1 ⟨v1, rfl, hs1, g1⟩
  have ly1 := keep g1 ly0
  have HS1 := Lib.hid hs1
  have B1 := Lib.hid g1
  clear hs1 g1 ly0
  go_wp2_with fail
  refine (HC6.out _).mono ?_
  rintro e w2 ⟨v2, rfl, hs2, g2⟩
  have HS2 := Lib.hid hs2
  have HS1' := Lib.hid (slB_keep g2 HS1.out)
  have B2 := Lib.hid (belowT B1.out g2)
  clear hs2 g2 ly1
  go_wp2_with fail
  refine (HC7.out _ _ (slB_keep (belowT G0.out B2.out) HS.out)).mono ?_
  rintro e w3 ⟨rfl, g3⟩
  have D3 := Lib.hid (belowT g3 ((Below.refl w3.heap.size w3).alloc (Nat.le_refl _) (.cells (bc X) 26)))
  have LC3 : Hid (ldA (w3.alloc (.cells (bc X) 26)) (.pointer (some ⟨w3.heap.size, 0, none⟩)) 66 = some (bc X)) := ldA_alloc_new _ _ _ _ _ rfl (bc_size _)
  clear g3
  go_wp2_with fail
  refine (HC8.out _ _ (slB_keep (belowT G0.out (belowT B2.out D3.out)) HS.out)).mono ?_
  rintro e w4 ⟨rfl, g4⟩
  have A4 := belowT g4 ((Below.refl w4.heap.size w4).alloc (Nat.le_refl _) (.cells (bc X) 26))
  have D4 := Lib.hid (belowT D3.out A4)
  have LC4 := Lib.hid (keep A4 LC3.out)
  have LD4 : Hid (ldA (w4.alloc (.cells (bc X) 26)) (.pointer (some ⟨w4.heap.size, 0, none⟩)) 66 = some (bc X)) := ldA_alloc_new _ _ _ _ _ rfl (bc_size _)
  clear g4 A4
  go_wp2_with fail
  refine (HC9.out _ _ (slB_keep (belowT G0.out (belowT B2.out D4.out)) HS.out)).mono ?_
  rintro e w5 ⟨rfl, g5⟩
  have A5 := belowT g5 ((Below.refl w5.heap.size w5).alloc (Nat.le_refl _) (.cells (ac Y) 30))
  have D5 := Lib.hid (belowT D4.out A5)
  have LC5 := Lib.hid (keep A5 LC4.out)
  have LD5 := Lib.hid (keep A5 LD4.out)
  have LE5 : Hid (ldA (w5.alloc (.cells (ac Y) 30)) (.pointer (some ⟨w5.heap.size, 0, none⟩)) 100 = some (ac Y)) := ldA_alloc_new _ _ _ _ _ rfl (ac_size _)
  clear g5 A5
  go_wp2_with fail
  refine (HC10.out _ _ (slB_keep (belowT G0.out (belowT B2.out D5.out)) HS.out)).mono ?_
  rintro e w6 ⟨rfl, g6⟩
  have A6 := belowT g6 ((Below.refl w6.heap.size w6).alloc (Nat.le_refl _) (.cells (ac Y) 30))
  have D6 := Lib.hid (belowT D5.out A6)
  have LC6 := Lib.hid (keep A6 LC5.out)
  have LD6 := Lib.hid (keep A6 LD5.out)
  have LE6 := Lib.hid (keep A6 LE5.out)
  have LF6 : Hid (ldA (w6.alloc (.cells (ac Y) 30)) (.pointer (some ⟨w6.heap.size, 0, none⟩)) 100 = some (ac Y)) := ldA_alloc_new _ _ _ _ _ rfl (ac_size _)
  clear g6 A6
  obtain ⟨w7, hw7⟩ : ∃ w7, w7 = w6.alloc (.cells (ac Y) 30) := ⟨_, rfl⟩
  rw [← hw7] at D6 LC6 LD6 LE6 LF6
  have HW7 := Lib.hid hw7
  clear hw7
  have Lx := fun q : Wd w7.drew => ldA_wd (show ldA w7.drew _ 66 = _ by rw [ldA_drew]; exact keep (belowT B2.out D6.out) LX0.out) (by decide) q
  have Lc := fun q : Wd w7.drew => ldA_wd (show ldA w7.drew _ 66 = _ by rw [ldA_drew]; exact LC6.out) (by decide) q
  have Ld := fun q : Wd w7.drew => ldA_wd (show ldA w7.drew _ 66 = _ by rw [ldA_drew]; exact LD6.out) (by decide) q
  have Le := fun q : Wd w7.drew => ldA_wd (show ldA w7.drew _ 100 = _ by rw [ldA_drew]; exact LE6.out) (by decide) q
  have Lf := fun q : Wd w7.drew => ldA_wd (show ldA w7.drew _ 100 = _ by rw [ldA_drew]; exact LF6.out) (by decide) q
  have S1 := fun q : Wd w7.drew => strB_wd (show SlB w7.drew v1 _ from slB_keep D6.out HS1'.out) q
  have S2 := fun q : Wd w7.drew => strB_wd (show SlB w7.drew v2 _ from slB_keep D6.out HS2.out) q
  go_wp2_with fail
  rw [← HW7.out]
  refine wp_region_lex [1, 4] (by kernel_rfl) (by kernel_rfl) (by kernel_rfl) ?_
  repeat (refine wpXL_quiet rfl rfl _ cls_begin ?_; (first | go_big_quiet_step (fail) | quiet_step (fail)); refine wpQuiet_nil ?_)
  refine wpXL_call rfl rfl rfl enters_putBlock #[.agg (bc x)] rfl ?_
  refine (putBlock_any x _).mono ?_
  rintro e w8 ⟨v8, rfl, hs8, g8⟩
  refine ⟨_, rfl, g8, ?_⟩
  simp only [Act.put, List.setIfInBounds_toArray, List.set_cons_zero, List.set_cons_succ]
  have S8 := fun q : Wd w8 => strB_wd hs8 q
  have G8 := Lib.hid (show Lq w7.drew w8 from g8)
  clear hs8 g8
  refine wpXL_quiet rfl rfl w8 (cls_at 1 w8 (by simp) (by kernel_rfl)) ?_
  first | go_big_quiet_step (fail) | quiet_step (fail)
  refine wpQuiet_nil ?_
  repeat (refine wpXL_quiet rfl rfl _ cls_begin ?_; (first | go_big_quiet_step (fail) | quiet_step (fail)); refine wpQuiet_nil ?_)
  refine wpXL_call rfl rfl rfl enters_refPutBlock #[.agg (bc x)] rfl ?_
  refine (refPutBlock_any x _).mono ?_
  rintro e w9 ⟨v9, rfl, hs9, g9⟩
  refine ⟨_, rfl, g9, ?_⟩
  simp only [Act.put, List.setIfInBounds_toArray, List.set_cons_zero, List.set_cons_succ]
  have S9 := fun q : Wd w9 => strB_wd hs9 q
  have G9 := Lib.hid (show Lq w8 w9 from g9)
  clear hs9 g9
  refine wpXL_quiet rfl rfl w9 (cls_at 4 w9 (by simp) (by kernel_rfl)) ?_
  first | go_big_quiet_step (fail) | quiet_step (fail)
  refine wpQuiet_nil ?_
  repeat (refine wpXL_quiet rfl rfl _ cls_begin ?_; (first | go_big_quiet_step (fail) | quiet_step (fail)); refine wpQuiet_nil ?_)
  refine wpXL_nil ?_
  go_wp2_with fail
  go_ret
  exact ⟨rfl, belowT (belowT G0.out (belowT B2.out D6.out)) (Lq.trans (Lq.trans (belowD (Below.refl _ _) 1) G8.out) G9.out)⟩

set_option maxRecDepth 100000 in
set_option maxHeartbeats 1000000 in
theorem wireTells_long (x : Blk) (y : At) (p : Option Addr) (n cap : Nat) (w : World) (h : 300 < n) :
    Calls Try.prog 3 #[.agg (bc x), .agg (ac y), .slice p n cap] w fun e w' => e = .returned (.bool true) ∧ Below w.heap.size w w' := by
  have z1 : decide ((300 : Int) < (n : Int)) = true := by simp; omega
  go_enter Try.func3, Try.ntmps3
  go_wp2_with fail
  refine (awake_any _).mono ?_
  rintro e w0 ⟨rfl, g0⟩
  go_wp2_with fail
  go_ret
  exact ⟨rfl, belowT (((Below.refl w.heap.size w).alloc (Nat.le_refl _) _).alloc (by simp) _) g0⟩
theorem wireTells_walk (x : Blk) (y : At) (v : Value) (l : List UInt8) (w : World) (h : SlB w v l) :
    Calls Try.prog 3 #[.agg (bc x), .agg (ac y), v] w fun e w' => e = .returned (.bool true) ∧ Below w.heap.size w w' := by
  have hs := h
  obtain ⟨p, cap, rfl, _⟩ := slB_shape h
  by_cases hl : 300 < l.length
  · exact wireTells_long x y p _ cap w hl
  · exact wireTells_short x y p cap l w hs (by omega)
end Go.Proofs.Ytjdpndclgmdahaa
