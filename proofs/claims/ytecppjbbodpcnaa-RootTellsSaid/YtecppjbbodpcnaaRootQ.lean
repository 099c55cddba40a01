/-
  The law RootTells, walked.
-/
import Derived.Test.YtecppjbbodpcnaaRootO
import Derived.Test.YtecppjbbodpcnaaRootP
namespace Go.Proofs.Ytecppjbbodpcnaa
open Go.RowKit

set_option maxRecDepth 100000 in
set_option maxHeartbeats 1000000 in
theorem refSort_nil (p : Option Addr) (cap : Nat) (w : World) : Calls Try.prog 15 #[.slice p 0 cap] w (SortIs [] w) := by
  go_enter Try.func15, Try.ntmps15
  go_wp2_with fail
  refine wp_loop_rounds 1 ?_
  rw [rounds_succ]
  go_wp2_with fail
  go_ret
  exact ⟨_, rfl, by rw [srt_nil]; exact slR_nil _ _ _, Below.refl _ _⟩
theorem refSort_any (v : Value) (l : List Rt) (w : World) (hl : SlR w v l) (hlen : l.length ≤ 100) : Calls Try.prog 15 #[v] w (SortIs l w) := by
  by_cases hn : l = []
  · subst hn
    obtain ⟨p, c, rfl, _⟩ := hl
    exact refSort_nil p c w
  · obtain ⟨b, o, c, rfl, g⟩ := slR_ne hl hn
    exact refSort_ne b o c l w hlen g

set_option maxRecDepth 100000 in
set_option maxHeartbeats 4000000 in
theorem rootTells_short (a b : Rt) (p : Option Addr) (cap : Nat) (l : List Rt) (s : ByteArray) (w : World) (hl : SlR w (.slice p l.length cap) l) (hlen : l.length ≤ 100) (hs : s.size ≤ 200) :
    Calls Try.prog 3 #[.agg (rc a), .agg (rc b), .slice p l.length cap, .string s] w fun e w' => e = .returned (.bool true) ∧ Below w.heap.size w w' := by
  have z1 : decide ((100 : Int) < (l.length : Int)) = false := by simp; omega
  have z2 : decide ((200 : Int) < (s.size : Int)) = false := by simp; omega
  have o1 := fun W => of_any s W
  have o2 := fun W => refOf_any s W
  unfold OfIs at o1 o2
  have cl := fun W => less_b a b W
  have rl := fun W => refLess_any a b W
  have ct := fun W => tx_any a W
  have rt := fun W => refText_any a W
  have he := eqB_self (ofR s.data.toList)
  have hsl := srt_le l
  generalize ofR s.data.toList = x at *
  generalize ofB s.data.toList = B at *
  generalize tx a = T at *
  generalize lessR a b = L at *
  have HL := Lib.hid hl; clear hl
  go_enter Try.func3, Try.ntmps3
  go_wp2_with fail
  refine (awake_any _).mono ?_
  rintro e w0 ⟨rfl, g0⟩
  have a0 : ldA w0 (.pointer (some ⟨w.heap.size, 0, none⟩)) 32 = some (rc a) := keep g0 (by go_simp)
  have b0 : ldA w0 (.pointer (some ⟨w.heap.size + 1, 0, none⟩)) 32 = some (rc b) := keep g0 (by go_simp)
  have G0 := belowT (belowA (belowA (Below.refl w.heap.size w) (.cells (rc a) 23)) (.cells (rc b) 23)) g0
  go_wp2_with fail
  refine (o1 _).mono ?_
  rintro e w1 ⟨rfl, g1⟩
  have a1 := keep g1 a0
  have b1 := keep g1 b0
  have G1 := belowT G0 g1
  go_wp2_with fail
  refine (o2 _).mono ?_
  rintro e w2 ⟨rfl, g2⟩
  have x2 : ldA w2 (.pointer (some ⟨w1.heap.size, 0, none⟩)) 32 = some (rc x) := keep g2 (by go_simp)
  have a2 : ldA w2 (.pointer (some ⟨w.heap.size, 0, none⟩)) 32 = some (rc a) := keep g2 ((ldA_alloc _ _ _ _ _ (ldA_lt a1 (by decide))).trans a1)
  have b2 : ldA w2 (.pointer (some ⟨w.heap.size + 1, 0, none⟩)) 32 = some (rc b) := keep g2 ((ldA_alloc _ _ _ _ _ (ldA_lt b1 (by decide))).trans b1)
  have G2 := belowT (belowA G1 (.cells (rc x) 23)) g2
  clear a0 b0 a1 b1 g0 g1 g2 G0 G1
  have a3 : ldA (w2.alloc (.cells (rc x) 23)) (.pointer (some ⟨w.heap.size, 0, none⟩)) 32 = some (rc a) := (ldA_alloc _ _ _ _ _ (ldA_lt a2 (by decide))).trans a2
  have b3 : ldA (w2.alloc (.cells (rc x) 23)) (.pointer (some ⟨w.heap.size + 1, 0, none⟩)) 32 = some (rc b) := (ldA_alloc _ _ _ _ _ (ldA_lt b2 (by decide))).trans b2
  have x3 : ldA (w2.alloc (.cells (rc x) 23)) (.pointer (some ⟨w1.heap.size, 0, none⟩)) 32 = some (rc x) := (ldA_alloc _ _ _ _ _ (ldA_lt x2 (by decide))).trans x2
  have y3 : ldA (w2.alloc (.cells (rc x) 23)) (.pointer (some ⟨w2.heap.size, 0, none⟩)) 32 = some (rc x) := ldA_alloc_new _ _ _ _ _ rfl (rc_size x)
  have G3 := belowA G2 (.cells (rc x) 23)
  clear a2 b2 x2 G2
  go_wp2_with fail
  refine (rl _).mono ?_
  rintro e w4 ⟨rfl, g4⟩
  have a4 := keep g4 a3
  have b4 := keep g4 b3
  have x4 := keep g4 x3
  have y4 := keep g4 y3
  have G4 := belowT G3 g4
  have S4 := Lib.hid (slR_keep G4 HL.out)
  clear a3 b3 x3 y3 G3 g4
  go_wp2_with fail
  refine (sort_any _ l _ S4.out (by omega)).mono ?_
  rintro e w5 ⟨v5, rfl, q5, g5⟩
  have Q5 := Lib.hid q5; clear q5
  go_wp2_with fail
  refine (refSort_any _ l _ (slR_keep g5 S4.out) hlen).mono ?_
  rintro e w6 ⟨v6, rfl, q6, g6⟩
  have Q6 := Lib.hid q6; clear q6
  go_wp2_with fail
  refine (same_any _ _ (srt l) _ (by omega) (slR_keep g6 Q5.out) Q6.out).mono ?_
  rintro e w7 ⟨rfl, g7⟩
  have aw := fun q : Wd w7 => ldA_wd (keep g7 (keep g6 (keep g5 a4))) (by decide) q
  have bw := fun q : Wd w7 => ldA_wd (keep g7 (keep g6 (keep g5 b4))) (by decide) q
  have xw := fun q : Wd w7 => ldA_wd (keep g7 (keep g6 (keep g5 x4))) (by decide) q
  have yw := fun q : Wd w7 => ldA_wd (keep g7 (keep g6 (keep g5 y4))) (by decide) q
  have G7 := belowT (belowT (belowT G4 g5) g6) g7
  clear a4 b4 x4 y4 G4 g5 g6 g7 S4 Q5 Q6
  go_wp2_with fail
  refine wp_region_grown (by kernel_rfl) (by kernel_rfl) ?_
  repeat (first | go_big_quiet_step ((first | (go_at_call 16; exact calls_wd (cl _)) | (go_at_call 17; exact calls_wd (ct _)) | (go_at_call 18; exact calls_wd (rt _)))) | quiet_step ((first | (go_at_call 16; exact calls_wd (cl _)) | (go_at_call 17; exact calls_wd (ct _)) | (go_at_call 18; exact calls_wd (rt _)))))
  refine wpQuiet_nil ?_
  rintro w8 ⟨⟨_, g8⟩, rfl⟩
  go_wp2_with fail
  go_ret
  exact ⟨rfl, belowT G7 g8⟩

set_option maxRecDepth 100000 in
set_option maxHeartbeats 4000000 in
theorem rootTells_long (a b : Rt) (p : Option Addr) (n cap : Nat) (s : ByteArray) (h : 100 < n ∨ 200 < s.size) (w : World) :
    Calls Try.prog 3 #[.agg (rc a), .agg (rc b), .slice p n cap, .string s] w fun e w' => e = .returned (.bool true) ∧ Below w.heap.size w w' := by
  by_cases h1 : 100 < n
  · have z1 : decide ((100 : Int) < (n : Int)) = true := by simp; omega
    go_enter Try.func3, Try.ntmps3
    go_wp2_with fail
    refine (awake_any _).mono ?_
    rintro e w0 ⟨rfl, g0⟩
    go_wp2_with fail
    go_ret
    exact ⟨rfl, belowT (belowA (belowA (Below.refl _ _) _) _) g0⟩
  · have z1 : decide ((100 : Int) < (n : Int)) = false := by simp; omega
    have z2 : decide ((200 : Int) < (s.size : Int)) = true := by simp; omega
    go_enter Try.func3, Try.ntmps3
    go_wp2_with fail
    refine (awake_any _).mono ?_
    rintro e w0 ⟨rfl, g0⟩
    go_wp2_with fail
    go_ret
    exact ⟨rfl, belowT (belowA (belowA (Below.refl _ _) _) _) g0⟩
theorem rootTells_walk (a b : Rt) (v : Value) (l : List Rt) (s : ByteArray) (w : World) (hl : SlR w v l) :
    Calls Try.prog 3 #[.agg (rc a), .agg (rc b), v, .string s] w fun e w' => e = .returned (.bool true) ∧ Below w.heap.size w w' := by
  have hl' := hl
  obtain ⟨p, c, rfl, _⟩ := hl
  by_cases h : 100 < l.length ∨ 200 < s.size
  · exact rootTells_long a b p _ c s h w
  · exact rootTells_short a b p c l s w hl' (by omega) (by omega)
end Go.Proofs.Ytecppjbbodpcnaa
