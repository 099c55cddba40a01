/-
  The law WireBack, walked (bytes of an attestation).
-/
import Derived.Test.YtjdpndclgmdahaaWireLB
namespace Go.Proofs.Ytjdpndclgmdahaa
open Go.RowKit

set_option maxRecDepth 100000 in
set_option maxHeartbeats 8000000 in
theorem wireBack_Ay (x : Blk) (y : At) (p : Option Addr) (cap : Nat) (l : List UInt8) (w : World) (h : SlB w (.slice p l.length cap) l) (hlen : l.length ≤ 300) (hy : okV y.val = true) (k1 : isB l = false) (k2 : isA l = true) :
    Calls Try.prog 4 #[.agg (bc x), .agg (ac y), .slice p l.length cap] w fun e w' => e = .returned (.bool true) ∧ Below w.heap.size w w' := by
  have HS := Lib.hid h; clear h
  have c1 := fun W => putBlock_any x W
  have c2 := fun v W hW => block_any v (putB x) W hW
  have c3 := fun v W hW => block_any v (putB x ++ [0]) W hW
  have c4 := fun v W hW => att_any v (putB x) W hW
  have c5 := fun W => putAtt_any y W
  have c6 := fun v W hW => att_any v (putAs y) W hW
  have c7 := fun v W hW => block_any v l W hW
  have c8 := fun v W hW => att_any v l W hW
  have c9 := fun W => putAtt_any (attOf l) W
  unfold BlockIs at c2 c3 c7
  unfold AttIs at c4 c6 c8
  rw [blkOf_putB, isB_putB] at c2
  rw [blkOf_not (isB_more x), isB_more] at c3
  rw [attOf_not (isA_putB x), isA_putB] at c4
  rw [hy] at c5
  rw [isA_putAs, hy, attOf_putAs y hy] at c6
  have hv := okV_bd hy
  have d1 : decide (0 ≤ y.val) = true := by simp; omega
  have d2 : decide (y.val ≤ 65535) = true := by simp; omega
  clear hy hv
  rw [k1] at c7
  rw [k2] at c8
  rw [okV_attOf, putAs_attOf] at c9
  rw [putA_attOf k2] at c9
  have HC1 := Lib.hid c1; have HC2 := Lib.hid c2; have HC3 := Lib.hid c3; have HC4 := Lib.hid c4; have HC5 := Lib.hid c5; have HC6 := Lib.hid c6; have HC7 := Lib.hid c7; have HC8 := Lib.hid c8; have HC9 := Lib.hid c9
  clear c1 c2 c3 c4 c5 c6 c7 c8 c9 k1 k2
  have z0 : decide ((300 : Int) < (l.length : Int)) = false := by simp; omega
  have qx := eqBlk_self x
  have qy := eqAt_self y
  have HLen := Lib.hid hlen
  clear hlen
  have HG00 : Hid (Below w.heap.size w ((w.alloc (.cells (bc x) 26)).alloc (.cells (ac y) 30))) := ((Below.refl w.heap.size w).alloc (Nat.le_refl _) _).alloc (by simp) _
  go_enter Try.func4, Try.ntmps4
  go_wp2_with fail
  refine (awake_any _).mono ?_
  rintro e w0 ⟨rfl, g0⟩
  have lx0 : ldA w0 (.pointer (some ⟨w.heap.size, 0, none⟩)) 66 = some (bc x) := keep g0 (by go_simp)
  have ly0 : ldA w0 (.pointer (some ⟨w.heap.size + 1, 0, none⟩)) 100 = some (ac y) := keep g0 (by go_simp)
  have vy0 : w0.cell? ⟨w.heap.size + 1, 0, none⟩ = some (.int .i64 y.val) := by
    rw [g0.cell (p := ⟨w.heap.size + 1, 0, none⟩) (by simp)]; exact att_val (heap_alloc2_new w _ _)
  have G0 := Lib.hid (belowT HG00.out g0)
  have LX0 := Lib.hid lx0; have LY0 := Lib.hid ly0; have VY0 := Lib.hid vy0
  clear g0 ly0 vy0
  go_wp2_with fail
  refine (HC1.out _).mono ?_
  rintro e w1 ⟨v1, rfl, hs1, g1⟩
  have HS1 := Lib.hid hs1
  have G1 := Lib.hid (belowT G0.out g1)
  have D1 := Lib.hid g1
  clear hs1 g1 lx0
  go_wp2_with fail
  refine (HC2.out _ _ HS1.out).mono ?_
  rintro e w2 ⟨rfl, g2⟩
  have A2 : Below w2.heap.size w2 (w2.alloc (.cells (bc x) 26)) := (Below.refl _ _).alloc (Nat.le_refl _) _
  have D2 := Lib.hid (belowT g2 A2)
  have LC2 : Hid (ldA (w2.alloc (.cells (bc x) 26)) (.pointer (some ⟨w2.heap.size, 0, none⟩)) 66 = some (bc x)) := ldA_alloc_new _ _ _ _ _ rfl (bc_size _)
  clear g2 A2
  go_wp2_with (at_builtin; first
    | (refine wpList_append_bytes _ rfl (.const (.slice none 0 0)) (.tmp 42) rfl (w2.heap.size + 1) _ [] rfl (own_nil _ _) _ (putB x) rfl (slB_keep D2.out HS1.out) (by rw [putB_length]; simp) (by simp) ?_; intro v3 w3 ho3 hg3
       rw [List.nil_append] at ho3
       have HO3 := Lib.hid ho3
       have D3 : Hid (Below (w2.alloc (.cells (bc x) 26)).heap.size (w2.alloc (.cells (bc x) 26)) w3) := hg3.own (base := (w2.alloc (.cells (bc x) 26)).heap.size) (own_nil _ _) (Nat.le_refl _)
       have S3 : Hid (w2.heap.size + 1 ≤ w3.heap.size) := by have := D3.out.size; simp at this; show _ ≤ _; omega
       clear ho3 hg3)
    | (refine wpList_append_bytes _ rfl (.tmp 43) (.tmp 44) rfl (w2.heap.size + 1) _ (putB x) rfl (own_alloc HO3.out _) _ [0] rfl (slB_lit _ [0] _ _ _ rfl rfl) (by rw [putB_length]; simp) (by have := S3.out; simp; omega) ?_; intro v4 w4 ho4 hg4
       have HS4 := Lib.hid (own_slB ho4)
       have D4 : Hid (Below (w2.alloc (.cells (bc x) 26)).heap.size (w2.alloc (.cells (bc x) 26)) w4) := D3.out.trans ((hg4.alloc.own HO3.out S3.out).mono (by simp))
       clear ho4 hg4))
  refine (HC3.out _ _ HS4.out).mono ?_
  rintro e w5 ⟨rfl, g5⟩
  have D5 := Lib.hid (belowT (belowT D4.out g5) ((Below.refl w5.heap.size w5).alloc (Nat.le_refl _) (.cells (bc zb) 26)))
  clear g5
  go_wp2_with fail
  refine (HC4.out _ _ (slB_keep D5.out (slB_keep D2.out HS1.out))).mono ?_
  rintro e w6 ⟨rfl, g6⟩
  have D6 := Lib.hid (belowT (belowT D5.out g6) ((Below.refl w6.heap.size w6).alloc (Nat.le_refl _) (.cells (ac za) 30)))
  clear g6
  have lc6 := keep D6.out LC2.out
  have B6 := Lib.hid (belowT (belowT D1.out D2.out) D6.out)
  have lx6 := keep B6.out LX0.out
  have ly6 := keep B6.out LY0.out
  go_wp2_with fail
  refine (HC5.out _).mono ?_
  rintro e w7 ⟨v7, rfl, hs7, g7⟩
  have HS7 := Lib.hid hs7
  have B7 := Lib.hid (belowT B6.out g7)
  clear hs7 g7 lc6 lx6 ly6
  go_wp2_with fail
  refine (HC6.out _ _ HS7.out).mono ?_
  rintro e w8 ⟨rfl, g8⟩
  have A8 := belowT g8 ((Below.refl w8.heap.size w8).alloc (Nat.le_refl _) (.cells (ac y) 30))
  have B8 := Lib.hid (belowT B7.out A8)
  have ly8 := keep B8.out LY0.out
  have vy8 : (w8.alloc (.cells (ac y) 30)).cell? ⟨w.heap.size + 1, 0, none⟩ = some (.int .i64 y.val) := (B8.out.cell (p := ⟨w.heap.size + 1, 0, none⟩) (block_lt_of_cell VY0.out)).trans VY0.out
  have ld8 : ldA (w8.alloc (.cells (ac y) 30)) (.pointer (some ⟨w8.heap.size, 0, none⟩)) 100 = some (ac y) := ldA_alloc_new _ _ _ _ _ rfl (ac_size _)
  clear g8 A8
  go_wp2_with fail
  refine (HC7.out _ _ (slB_keep (belowT G0.out B8.out) HS.out)).mono ?_
  rintro e w9 ⟨rfl, g9⟩
  have B9 := Lib.hid (belowT (belowT B8.out g9) ((Below.refl w9.heap.size w9).alloc (Nat.le_refl _) (.cells (bc (blkOf l)) 26)))
  have LE9 : Hid (ldA (w9.alloc (.cells (bc (blkOf l)) 26)) (.pointer (some ⟨w9.heap.size, 0, none⟩)) 66 = some (bc (blkOf l))) := ldA_alloc_new _ _ _ _ _ rfl (bc_size _)
  clear g9 ly8 vy8 ld8
  go_wp2_with fail
  refine (HC8.out _ _ (slB_keep (belowT G0.out B9.out) HS.out)).mono ?_
  rintro e w10 ⟨rfl, g10⟩
  have A10 := belowT g10 ((Below.refl w10.heap.size w10).alloc (Nat.le_refl _) (.cells (ac (attOf l)) 30))
  have B10 := Lib.hid (belowT B9.out A10)
  have LE10 := Lib.hid (keep A10 LE9.out)
  have lg10 : ldA (w10.alloc (.cells (ac (attOf l)) 30)) (.pointer (some ⟨w10.heap.size, 0, none⟩)) 100 = some (ac (attOf l)) := ldA_alloc_new _ _ _ _ _ rfl (ac_size _)
  clear g10 A10
  go_wp2_with fail
  refine (HC9.out _).mono ?_
  rintro e w11 ⟨v11, rfl, hs11, g11⟩
  have LE11 := Lib.hid (keep g11 LE10.out)
  have B11 := Lib.hid (belowT B10.out g11)
  have HS11 := Lib.hid hs11
  clear hs11 g11 lg10
  have Le := fun q : Wd w11.drew => ldA_wd (show ldA w11.drew _ 66 = _ by rw [ldA_drew]; exact LE11.out) (by decide) q
  have Sb := fun q : Wd w11.drew => strB_wd (show SlB w11.drew (.slice p l.length cap) l from slB_keep (belowT G0.out B11.out) HS.out) q
  have Sk := fun q : Wd w11.drew => strB_wd (show SlB w11.drew v11 _ from HS11.out) q
  have ll := str_beq_self l
  go_wp2_with fail
  refine wp_region_lex [4] (by kernel_rfl) (by kernel_rfl) (by kernel_rfl) ?_
  repeat (refine wpXL_quiet rfl rfl _ cls_begin ?_; (first | go_big_quiet_step (fail) | quiet_step (fail)); refine wpQuiet_nil ?_)
  refine wpXL_skip rfl ?_
  simp only [Act.put, List.setIfInBounds_toArray, List.set_cons_zero, List.set_cons_succ]
  repeat (refine wpXL_quiet rfl rfl _ cls_begin ?_; (first | go_big_quiet_step (fail) | quiet_step (fail)); refine wpQuiet_nil ?_)
  refine wpXL_nil ?_
  go_wp2_with fail
  go_ret
  exact ⟨rfl, belowT (belowT G0.out B11.out) (belowD (Below.refl _ _) 1)⟩

set_option maxRecDepth 100000 in
set_option maxHeartbeats 8000000 in
theorem wireBack_Al (x : Blk) (y : At) (p : Option Addr) (cap : Nat) (l : List UInt8) (w : World) (h : SlB w (.slice p l.length cap) l) (hlen : l.length ≤ 300) (hy : y.val < 0) (k1 : isB l = false) (k2 : isA l = true) :
    Calls Try.prog 4 #[.agg (bc x), .agg (ac y), .slice p l.length cap] w fun e w' => e = .returned (.bool true) ∧ Below w.heap.size w w' := by
  have HS := Lib.hid h; clear h
  have c1 := fun W => putBlock_any x W
  have c2 := fun v W hW => block_any v (putB x) W hW
  have c3 := fun v W hW => block_any v (putB x ++ [0]) W hW
  have c4 := fun v W hW => att_any v (putB x) W hW
  have c5 := fun W => putAtt_any y W
  have c6 := fun v W hW => att_any v (putAs y) W hW
  have c7 := fun v W hW => block_any v l W hW
  have c8 := fun v W hW => att_any v l W hW
  have c9 := fun W => putAtt_any (attOf l) W
  unfold BlockIs at c2 c3 c7
  unfold AttIs at c4 c6 c8
  rw [blkOf_putB, isB_putB] at c2
  rw [blkOf_not (isB_more x), isB_more] at c3
  rw [attOf_not (isA_putB x), isA_putB] at c4
  have hn : okV y.val = false := by unfold okV; simp; omega
  rw [hn] at c5
  rw [isA_putAs, hn, attOf_putAs_no y hn] at c6
  have d1 : decide (0 ≤ y.val) = false := by simp; omega
  clear hn hy
  rw [k1] at c7
  rw [k2] at c8
  rw [okV_attOf, putAs_attOf] at c9
  rw [putA_attOf k2] at c9
  have HC1 := Lib.hid c1; have HC2 := Lib.hid c2; have HC3 := Lib.hid c3; have HC4 := Lib.hid c4; have HC5 := Lib.hid c5; have HC6 := Lib.hid c6; have HC7 := Lib.hid c7; have HC8 := Lib.hid c8; have HC9 := Lib.hid c9
  clear c1 c2 c3 c4 c5 c6 c7 c8 c9 k1 k2
  have z0 : decide ((300 : Int) < (l.length : Int)) = false := by simp; omega
  have qx := eqBlk_self x
  have qy := eqAt_self y
  have HLen := Lib.hid hlen
  clear hlen
  have HG00 : Hid (Below w.heap.size w ((w.alloc (.cells (bc x) 26)).alloc (.cells (ac y) 30))) := ((Below.refl w.heap.size w).alloc (Nat.le_refl _) _).alloc (by simp) _
  go_enter Try.func4, Try.ntmps4
  go_wp2_with fail
  refine (awake_any _).mono ?_
  rintro e w0 ⟨rfl, g0⟩
  have lx0 : ldA w0 (.pointer (some ⟨w.heap.size, 0, none⟩)) 66 = some (bc x) := keep g0 (by go_simp)
  have ly0 : ldA w0 (.pointer (some ⟨w.heap.size + 1, 0, none⟩)) 100 = some (ac y) := keep g0 (by go_simp)
  have vy0 : w0.cell? ⟨w.heap.size + 1, 0, none⟩ = some (.int .i64 y.val) := by
    rw [g0.cell (p := ⟨w.heap.size + 1, 0, none⟩) (by simp)]; exact att_val (heap_alloc2_new w _ _)
  have G0 := Lib.hid (belowT HG00.out g0)
  have LX0 := Lib.hid lx0; have LY0 := Lib.hid ly0; have VY0 := Lib.hid vy0
  clear g0 ly0 vy0
  go_wp2_with fail
  refine (HC1.out _).mono ?_
  rintro e w1 ⟨v1, rfl, hs1, g1⟩
  have HS1 := Lib.hid hs1
  have G1 := Lib.hid (belowT G0.out g1)
  have D1 := Lib.hid g1
  clear hs1 g1 lx0
  go_wp2_with fail
  refine (HC2.out _ _ HS1.out).mono ?_
  rintro e w2 ⟨rfl, g2⟩
  have A2 : Below w2.heap.size w2 (w2.alloc (.cells (bc x) 26)) := (Below.refl _ _).alloc (Nat.le_refl _) _
  have D2 := Lib.hid (belowT g2 A2)
  have LC2 : Hid (ldA (w2.alloc (.cells (bc x) 26)) (.pointer (some ⟨w2.heap.size, 0, none⟩)) 66 = some (bc x)) := ldA_alloc_new _ _ _ _ _ rfl (bc_size _)
  clear g2 A2
  go_wp2_with (at_builtin; first
    | (refine wpList_append_bytes _ rfl (.const (.slice none 0 0)) (.tmp 42) rfl (w2.heap.size + 1) _ [] rfl (own_nil _ _) _ (putB x) rfl (slB_keep D2.out HS1.out) (by rw [putB_length]; simp) (by simp) ?_; intro v3 w3 ho3 hg3
       rw [List.nil_append] at ho3
       have HO3 := Lib.hid ho3
       have D3 : Hid (Below (w2.alloc (.cells (bc x) 26)).heap.size (w2.alloc (.cells (bc x) 26)) w3) := hg3.own (base := (w2.alloc (.cells (bc x) 26)).heap.size) (own_nil _ _) (Nat.le_refl _)
       have S3 : Hid (w2.heap.size + 1 ≤ w3.heap.size) := by have := D3.out.size; simp at this; show _ ≤ _; omega
       clear ho3 hg3)
    | (refine wpList_append_bytes _ rfl (.tmp 43) (.tmp 44) rfl (w2.heap.size + 1) _ (putB x) rfl (own_alloc HO3.out _) _ [0] rfl (slB_lit _ [0] _ _ _ rfl rfl) (by rw [putB_length]; simp) (by have := S3.out; simp; omega) ?_; intro v4 w4 ho4 hg4
       have HS4 := Lib.hid (own_slB ho4)
       have D4 : Hid (Below (w2.alloc (.cells (bc x) 26)).heap.size (w2.alloc (.cells (bc x) 26)) w4) := D3.out.trans ((hg4.alloc.own HO3.out S3.out).mono (by simp))
       clear ho4 hg4))
  refine (HC3.out _ _ HS4.out).mono ?_
  rintro e w5 ⟨rfl, g5⟩
  have D5 := Lib.hid (belowT (belowT D4.out g5) ((Below.refl w5.heap.size w5).alloc (Nat.le_refl _) (.cells (bc zb) 26)))
  clear g5
  go_wp2_with fail
  refine (HC4.out _ _ (slB_keep D5.out (slB_keep D2.out HS1.out))).mono ?_
  rintro e w6 ⟨rfl, g6⟩
  have D6 := Lib.hid (belowT (belowT D5.out g6) ((Below.refl w6.heap.size w6).alloc (Nat.le_refl _) (.cells (ac za) 30)))
  clear g6
  have lc6 := keep D6.out LC2.out
  have B6 := Lib.hid (belowT (belowT D1.out D2.out) D6.out)
  have lx6 := keep B6.out LX0.out
  have ly6 := keep B6.out LY0.out
  go_wp2_with fail
  refine (HC5.out _).mono ?_
  rintro e w7 ⟨v7, rfl, hs7, g7⟩
  have HS7 := Lib.hid hs7
  have B7 := Lib.hid (belowT B6.out g7)
  clear hs7 g7 lc6 lx6 ly6
  go_wp2_with fail
  refine (HC6.out _ _ HS7.out).mono ?_
  rintro e w8 ⟨rfl, g8⟩
  have A8 := belowT g8 ((Below.refl w8.heap.size w8).alloc (Nat.le_refl _) (.cells (ac za) 30))
  have B8 := Lib.hid (belowT B7.out A8)
  have ly8 := keep B8.out LY0.out
  have vy8 : (w8.alloc (.cells (ac za) 30)).cell? ⟨w.heap.size + 1, 0, none⟩ = some (.int .i64 y.val) := (B8.out.cell (p := ⟨w.heap.size + 1, 0, none⟩) (block_lt_of_cell VY0.out)).trans VY0.out
  have ld8 : ldA (w8.alloc (.cells (ac za) 30)) (.pointer (some ⟨w8.heap.size, 0, none⟩)) 100 = some (ac za) := ldA_alloc_new _ _ _ _ _ rfl (ac_size _)
  clear g8 A8
  go_wp2_with fail
  refine (HC7.out _ _ (slB_keep (belowT G0.out B8.out) HS.out)).mono ?_
  rintro e w9 ⟨rfl, g9⟩
  have B9 := Lib.hid (belowT (belowT B8.out g9) ((Below.refl w9.heap.size w9).alloc (Nat.le_refl _) (.cells (bc (blkOf l)) 26)))
  have LE9 : Hid (ldA (w9.alloc (.cells (bc (blkOf l)) 26)) (.pointer (some ⟨w9.heap.size, 0, none⟩)) 66 = some (bc (blkOf l))) := ldA_alloc_new _ _ _ _ _ rfl (bc_size _)
  clear g9 ly8 vy8 ld8
  go_wp2_with fail
  refine (HC8.out _ _ (slB_keep (belowT G0.out B9.out) HS.out)).mono ?_
  rintro e w10 ⟨rfl, g10⟩
  have A10 := belowT g10 ((Below.refl w10.heap.size w10).alloc (Nat.le_refl _) (.cells (ac (attOf l)) 30))
  have B10 := Lib.hid (belowT B9.out A10)
  have LE10 := Lib.hid (keep A10 LE9.out)
  have lg10 : ldA (w10.alloc (.cells (ac (attOf l)) 30)) (.pointer (some ⟨w10.heap.size, 0, none⟩)) 100 = some (ac (attOf l)) := ldA_alloc_new _ _ _ _ _ rfl (ac_size _)
  clear g10 A10
  go_wp2_with fail
  refine (HC9.out _).mono ?_
  rintro e w11 ⟨v11, rfl, hs11, g11⟩
  have LE11 := Lib.hid (keep g11 LE10.out)
  have B11 := Lib.hid (belowT B10.out g11)
  have HS11 := Lib.hid hs11
  clear hs11 g11 lg10
  have Le := fun q : Wd w11.drew => ldA_wd (show ldA w11.drew _ 66 = _ by rw [ldA_drew]; exact LE11.out) (by decide) q
  have Sb := fun q : Wd w11.drew => strB_wd (show SlB w11.drew (.slice p l.length cap) l from slB_keep (belowT G0.out B11.out) HS.out) q
  have Sk := fun q : Wd w11.drew => strB_wd (show SlB w11.drew v11 _ from HS11.out) q
  have ll := str_beq_self l
  go_wp2_with fail
  refine wp_region_lex [4] (by kernel_rfl) (by kernel_rfl) (by kernel_rfl) ?_
  repeat (refine wpXL_quiet rfl rfl _ cls_begin ?_; (first | go_big_quiet_step (fail) | quiet_step (fail)); refine wpQuiet_nil ?_)
  refine wpXL_skip rfl ?_
  simp only [Act.put, List.setIfInBounds_toArray, List.set_cons_zero, List.set_cons_succ]
  repeat (refine wpXL_quiet rfl rfl _ cls_begin ?_; (first | go_big_quiet_step (fail) | quiet_step (fail)); refine wpQuiet_nil ?_)
  refine wpXL_nil ?_
  go_wp2_with fail
  go_ret
  exact ⟨rfl, belowT (belowT G0.out B11.out) (belowD (Below.refl _ _) 1)⟩

set_option maxRecDepth 100000 in
set_option maxHeartbeats 8000000 in
theorem wireBack_Ag (x : Blk) (y : At) (p : Option Addr) (cap : Nat) (l : List UInt8) (w : World) (h : SlB w (.slice p l.length cap) l) (hlen : l.length ≤ 300) (hy : 65535 < y.val) (k1 : isB l = false) (k2 : isA l = true) :
    Calls Try.prog 4 #[.agg (bc x), .agg (ac y), .slice p l.length cap] w fun e w' => e = .returned (.bool true) ∧ Below w.heap.size w w' := by
  have HS := Lib.hid h; clear h
  have c1 := fun W => putBlock_any x W
  have c2 := fun v W hW => block_any v (putB x) W hW
  have c3 := fun v W hW => block_any v (putB x ++ [0]) W hW
  have c4 := fun v W hW => att_any v (putB x) W hW
  have c5 := fun W => putAtt_any y W
  have c6 := fun v W hW => att_any v (putAs y) W hW
  have c7 := fun v W hW => block_any v l W hW
  have c8 := fun v W hW => att_any v l W hW
  have c9 := fun W => putAtt_any (attOf l) W
  unfold BlockIs at c2 c3 c7
  unfold AttIs at c4 c6 c8
  rw [blkOf_putB, isB_putB] at c2
  rw [blkOf_not (isB_more x), isB_more] at c3
  rw [attOf_not (isA_putB x), isA_putB] at c4
  have hn : okV y.val = false := by unfold okV; simp; omega
  rw [hn] at c5
  rw [isA_putAs, hn, attOf_putAs_no y hn] at c6
  have d1 : decide (0 ≤ y.val) = true := by simp; omega
  have d2 : decide (y.val ≤ 65535) = false := by simp; omega
  clear hn hy
  rw [k1] at c7
  rw [k2] at c8
  rw [okV_attOf, putAs_attOf] at c9
  rw [putA_attOf k2] at c9
  have HC1 := Lib.hid c1; have HC2 := Lib.hid c2; have HC3 := Lib.hid c3; have HC4 := Lib.hid c4; have HC5 := Lib.hid c5; have HC6 := Lib.hid c6; have HC7 := Lib.hid c7; have HC8 := Lib.hid c8; have HC9 := Lib.hid c9
  clear c1 c2 c3 c4 c5 c6 c7 c8 c9 k1 k2
  have z0 : decide ((300 : Int) < (l.length : Int)) = false := by simp; omega
  have qx := eqBlk_self x
  have qy := eqAt_self y
  have HLen := Lib.hid hlen
  clear hlen
  have HG00 : Hid (Below w.heap.size w ((w.alloc (.cells (bc x) 26)).alloc (.cells (ac y) 30))) := ((Below.refl w.heap.size w).alloc (Nat.le_refl _) _).alloc (by simp) _
  go_enter Try.func4, Try.ntmps4
  go_wp2_with fail
  refine (awake_any _).mono ?_
  rintro e w0 ⟨rfl, g0⟩
  have lx0 : ldA w0 (.pointer (some ⟨w.heap.size, 0, none⟩)) 66 = some (bc x) := keep g0 (by go_simp)
  have ly0 : ldA w0 (.pointer (some ⟨w.heap.size + 1, 0, none⟩)) 100 = some (ac y) := keep g0 (by go_simp)
  have vy0 : w0.cell? ⟨w.heap.size + 1, 0, none⟩ = some (.int .i64 y.val) := by
    rw [g0.cell (p := ⟨w.heap.size + 1, 0, none⟩) (by simp)]; exact att_val (heap_alloc2_new w _ _)
  have G0 := Lib.hid (belowT HG00.out g0)
  have LX0 := Lib.hid lx0; have LY0 := Lib.hid ly0; have VY0 := Lib.hid vy0
  clear g0 ly0 vy0
  go_wp2_with fail
  refine (HC1.out _).mono ?_
  rintro e w1 ⟨v1, rfl, hs1, g1⟩
  have HS1 := Lib.hid hs1
  have G1 := Lib.hid (belowT G0.out g1)
  have D1 := Lib.hid g1
  clear hs1 g1 lx0
  go_wp2_with fail
  refine (HC2.out _ _ HS1.out).mono ?_
  rintro e w2 ⟨rfl, g2⟩
  have A2 : Below w2.heap.size w2 (w2.alloc (.cells (bc x) 26)) := (Below.refl _ _).alloc (Nat.le_refl _) _
  have D2 := Lib.hid (belowT g2 A2)
  have LC2 : Hid (ldA (w2.alloc (.cells (bc x) 26)) (.pointer (some ⟨w2.heap.size, 0, none⟩)) 66 = some (bc x)) := ldA_alloc_new _ _ _ _ _ rfl (bc_size _)
  clear g2 A2
  go_wp2_with (at_builtin; first
    | (refine wpList_append_bytes _ rfl (.const (.slice none 0 0)) (.tmp 42) rfl (w2.heap.size + 1) _ [] rfl (own_nil _ _) _ (putB x) rfl (slB_keep D2.out HS1.out) (by rw [putB_length]; simp) (by simp) ?_; intro v3 w3 ho3 hg3
       rw [List.nil_append] at ho3
       have HO3 := Lib.hid ho3
       have D3 : Hid (Below (w2.alloc (.cells (bc x) 26)).heap.size (w2.alloc (.cells (bc x) 26)) w3) := hg3.own (base := (w2.alloc (.cells (bc x) 26)).heap.size) (own_nil _ _) (Nat.le_refl _)
       have S3 : Hid (w2.heap.size + 1 ≤ w3.heap.size) := by have := D3.out.size; simp at this; show _ ≤ _; omega
       clear ho3 hg3)
    | (refine wpList_append_bytes _ rfl (.tmp 43) (.tmp 44) rfl (w2.heap.size + 1) _ (putB x) rfl (own_alloc HO3.out _) _ [0] rfl (slB_lit _ [0] _ _ _ rfl rfl) (by rw [putB_length]; simp) (by have := S3.out; simp; omega) ?_; intro v4 w4 ho4 hg4
       have HS4 := Lib.hid (own_slB ho4)
       have D4 : Hid (Below (w2.alloc (.cells (bc x) 26)).heap.size (w2.alloc (.cells (bc x) 26)) w4) := D3.out.trans ((hg4.alloc.own HO3.out S3.out).mono (by simp))
       clear ho4 hg4))
  refine (HC3.out _ _ HS4.out).mono ?_
  rintro e w5 ⟨rfl, g5⟩
  have D5 := Lib.hid (belowT (belowT D4.out g5) ((Below.refl w5.heap.size w5).alloc (Nat.le_refl _) (.cells (bc zb) 26)))
  clear g5
  go_wp2_with fail
  refine (HC4.out _ _ (slB_keep D5.out (slB_keep D2.out HS1.out))).mono ?_
  rintro e w6 ⟨rfl, g6⟩
  have D6 := Lib.hid (belowT (belowT D5.out g6) ((Below.refl w6.heap.size w6).alloc (Nat.le_refl _) (.cells (ac za) 30)))
  clear g6
  have lc6 := keep D6.out LC2.out
  have B6 := Lib.hid (belowT (belowT D1.out D2.out) D6.out)
  have lx6 := keep B6.out LX0.out
  have ly6 := keep B6.out LY0.out
  go_wp2_with fail
  refine (HC5.out _).mono ?_
  rintro e w7 ⟨v7, rfl, hs7, g7⟩
  have HS7 := Lib.hid hs7
  have B7 := Lib.hid (belowT B6.out g7)
  clear hs7 g7 lc6 lx6 ly6
  go_wp2_with fail
  refine (HC6.out _ _ HS7.out).mono ?_
  rintro e w8 ⟨rfl, g8⟩
  have A8 := belowT g8 ((Below.refl w8.heap.size w8).alloc (Nat.le_refl _) (.cells (ac za) 30))
  have B8 := Lib.hid (belowT B7.out A8)
  have ly8 := keep B8.out LY0.out
  have vy8 : (w8.alloc (.cells (ac za) 30)).cell? ⟨w.heap.size + 1, 0, none⟩ = some (.int .i64 y.val) := (B8.out.cell (p := ⟨w.heap.size + 1, 0, none⟩) (block_lt_of_cell VY0.out)).trans VY0.out
  have ld8 : ldA (w8.alloc (.cells (ac za) 30)) (.pointer (some ⟨w8.heap.size, 0, none⟩)) 100 = some (ac za) := ldA_alloc_new _ _ _ _ _ rfl (ac_size _)
  clear g8 A8
  go_wp2_with fail
  refine (HC7.out _ _ (slB_keep (belowT G0.out B8.out) HS.out)).mono ?_
  rintro e w9 ⟨rfl, g9⟩
  have B9 := Lib.hid (belowT (belowT B8.out g9) ((Below.refl w9.heap.size w9).alloc (Nat.le_refl _) (.cells (bc (blkOf l)) 26)))
  have LE9 : Hid (ldA (w9.alloc (.cells (bc (blkOf l)) 26)) (.pointer (some ⟨w9.heap.size, 0, none⟩)) 66 = some (bc (blkOf l))) := ldA_alloc_new _ _ _ _ _ rfl (bc_size _)
  clear g9 ly8 vy8 ld8
  go_wp2_with fail
  refine (HC8.out _ _ (slB_keep (belowT G0.out B9.out) HS.out)).mono ?_
  rintro e w10 ⟨rfl, g10⟩
  have A10 := belowT g10 ((Below.refl w10.heap.size w10).alloc (Nat.le_refl _) (.cells (ac (attOf l)) 30))
  have B10 := Lib.hid (belowT B9.out A10)
  have LE10 := Lib.hid (keep A10 LE9.out)
  have lg10 : ldA (w10.alloc (.cells (ac (attOf l)) 30)) (.pointer (some ⟨w10.heap.size, 0, none⟩)) 100 = some (ac (attOf l)) := ldA_alloc_new _ _ _ _ _ rfl (ac_size _)
  clear g10 A10
  go_wp2_with fail
  refine (HC9.out _).mono ?_
  rintro e w11 ⟨v11, rfl, hs11, g11⟩
  have LE11 := Lib.hid (keep g11 LE10.out)
  have B11 := Lib.hid (belowT B10.out g11)
  have HS11 := Lib.hid hs11
  clear hs11 g11 lg10
  have Le := fun q : Wd w11.drew => ldA_wd (show ldA w11.drew _ 66 = _ by rw [ldA_drew]; exact LE11.out) (by decide) q
  have Sb := fun q : Wd w11.drew => strB_wd (show SlB w11.drew (.slice p l.length cap) l from slB_keep (belowT G0.out B11.out) HS.out) q
  have Sk := fun q : Wd w11.drew => strB_wd (show SlB w11.drew v11 _ from HS11.out) q
  have ll := str_beq_self l
  go_wp2_with fail
  refine wp_region_lex [4] (by kernel_rfl) (by kernel_rfl) (by kernel_rfl) ?_
  repeat (refine wpXL_quiet rfl rfl _ cls_begin ?_; (first | go_big_quiet_step (fail) | quiet_step (fail)); refine wpQuiet_nil ?_)
  refine wpXL_skip rfl ?_
  simp only [Act.put, List.setIfInBounds_toArray, List.set_cons_zero, List.set_cons_succ]
  repeat (refine wpXL_quiet rfl rfl _ cls_begin ?_; (first | go_big_quiet_step (fail) | quiet_step (fail)); refine wpQuiet_nil ?_)
  refine wpXL_nil ?_
  go_wp2_with fail
  go_ret
  exact ⟨rfl, belowT (belowT G0.out B11.out) (belowD (Below.refl _ _) 1)⟩
end Go.Proofs.Ytjdpndclgmdahaa
