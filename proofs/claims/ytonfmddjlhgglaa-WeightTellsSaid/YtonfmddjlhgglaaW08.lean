/-
  What is asked of package weight's functions (contracts, by name); the law's own example.
-/
import Derived.Test.YtonfmddjlhgglaaR08Pass
import Derived.Test.YtonfmddjlhgglaaThree
namespace Go.Proofs.Ytonfmddjlhgglaa
open Go.RowKit

/-- A list that reads so, and whether. -/
def NumsIs (a : List UInt64) (ok : Bool) (w : World) (e : Ending) (w' : World) : Prop := ∃ v : Value, e = .returned (.tuple #[v, .bool ok]) ∧ SlE Enum w' v a ∧ Below w.heap.size w w'
theorem NumsOk.is {a : List UInt64} {ok : Bool} {w w' : World} {e : Ending} (h : NumsOk a ok w e w') : NumsIs a ok w e w' := by
  obtain ⟨v, h1, h2, h3⟩ := h
  exact ⟨v, h1, ownE_slE h2, h3⟩
def SubC : Prop := ∀ (s : SlV) (v : Value) (l : List Nd) (a : List UInt64) (w : World), SlE Ene w (sv s) l → SlE Enum w v a → Calls Try.prog 10 #[.agg (tr ⟨s⟩), v] w (NumsIs (subL l a) (subOk l a) w)
def PassC : Prop := ∀ (s : SlV) (v1 v2 v3 : Value) (l : List Nd) (a b c : List UInt64) (w : World), SlE Ene w (sv s) l → SlE Enum w v1 a → SlE Enum w v2 b → SlE Enum w v3 c → Calls Try.prog 12 #[.agg (tr ⟨s⟩), v1, v2, v3] w (NumsIs (passL l a b c) (passOk l a b c) w)
def SameC : Prop := ∀ (v u : Value) (a b : List UInt64) (w : World), SlE Enum w v a → SlE Enum w u b → a.length ≤ 1000 → Calls Try.prog 15 #[v, u] w fun e w' => e = .returned (.bool (decide (a = b))) ∧ Below w.heap.size w w'

theorem three_sub : subOk threeL [1, 2, 3] = true ∧ subL threeL [1, 2, 3] = [6, 5, 3] := by decide +kernel
theorem three_pass : passOk threeL [6, 5, 3] [0, 0, 4] [1, 0, 0] = true ∧ passL threeL [6, 5, 3] [0, 0, 4] [1, 0, 0] = [9, 9, 7] := by decide +kernel
/-- A list of three, as it is laid. -/
theorem nums_lit3 (w : World) (x y z : Nat) (hx : x < 18446744073709551616) (hy : y < 18446744073709551616) (hz : z < 18446744073709551616) (b : Nat) (hb : b = w.heap.size) :
    SlE Enum (w.alloc (.cells #[.int .u64 (x : Int), .int .u64 (y : Int), .int .u64 (z : Int)] 33)) (.slice (some ⟨b, 0, none⟩) 3 3) [UInt64.ofNat x, UInt64.ofNat y, UInt64.ofNat z] :=
  slE_lit w _ 3 _ _ b rfl hb (by simp [cellsE, Enum, num_nat hx, num_nat hy, num_nat hz])

set_option maxRecDepth 100000 in
set_option maxHeartbeats 8000000 in
theorem awake_any8 (HSu : SubC) (HPa : PassC) (HSa : SameC) (w : World) : Calls Try.prog 9 #[] w fun e w' => e = .returned (.bool true) ∧ Below w.heap.size w w' := by
  have HS : Hid (∀ (s : SlV) (v : Value) (W : World), SlE Ene W (sv s) threeL → SlE Enum W v [1, 2, 3] → Calls Try.prog 10 #[.agg (tr ⟨s⟩), v] W (NumsIs [6, 5, 3] true W)) := fun s v W h h' => by
    have := HSu s v threeL [1, 2, 3] W h h'
    rwa [three_sub.1, three_sub.2] at this
  have HP : Hid (∀ (s : SlV) (v u x : Value) (W : World), SlE Ene W (sv s) threeL → SlE Enum W v [6, 5, 3] → SlE Enum W u [0, 0, 4] → SlE Enum W x [1, 0, 0] → Calls Try.prog 12 #[.agg (tr ⟨s⟩), v, u, x] W (NumsIs [9, 9, 7] true W)) := fun s v u x W h h1 h2 h3 => by
    have := HPa s v u x threeL [6, 5, 3] [0, 0, 4] [1, 0, 0] W h h1 h2 h3
    rwa [three_pass.1, three_pass.2] at this
  have HR : Hid (∀ (v u : Value) (a : List UInt64) (W : World), SlE Enum W v a → SlE Enum W u a → a.length = 3 → Calls Try.prog 14 #[v, u] W fun e w' => e = .returned (.bool true) ∧ Below W.heap.size W w') := fun v u a W h h' hl => by
    have := ref08Same v u a a W h h' (by omega)
    rwa [decide_eq_true rfl] at this
  have HQ : Hid (∀ (v : Value) (a : List UInt64) (W : World), SlE Enum W v a → a.length = 3 → Calls Try.prog 15 #[v, v] W fun e w' => e = .returned (.bool true) ∧ Below W.heap.size W w') := fun v a W h hl => by
    have := HSa v v a a W h h (by omega)
    rwa [decide_eq_true rfl] at this
  clear HSu HPa HSa
  go_enter Try.func9, Try.ntmps9
  go_wp2_with fail
  refine (three _).mono ?_
  rintro e w1 ⟨s, rfl, hs, g1⟩
  obtain ⟨W1, hW1⟩ : ∃ W1, W1 = w1.alloc (.cells (tr ⟨s⟩) 24) := ⟨_, rfl⟩
  have G1 : Hid (Below w.heap.size w W1) := by rw [hW1]; exact belowT g1 below1
  have S1 : Hid (SlE Ene W1 (sv s) threeL) := by rw [hW1]; exact slE_keep below1 hs
  have M1 : Hid (W1.heap[w1.heap.size]? = some (.cells (tr ⟨s⟩) 24 (0, 0))) := by rw [hW1]; exact heap_alloc_last w1 _
  have Z1 : Hid (W1.heap.size = w1.heap.size + 1) := by rw [hW1]; exact World.size_alloc _ _
  have HW := Lib.hid hW1
  clear hs g1 hW1
  go_wp2_with fail
  rw [← HW.out]
  obtain ⟨V1, hV1⟩ : ∃ V1, V1 = W1.alloc (.cells #[.int .u64 1, .int .u64 2, .int .u64 3] 33) := ⟨_, rfl⟩
  have E1 : Hid (Below W1.heap.size W1 V1) := by rw [hV1]; exact below1
  have A1 : Hid (SlE Enum V1 (.slice (some ⟨w1.heap.size + 1, 0, none⟩) 3 3) [1, 2, 3]) := by rw [hV1]; exact nums_lit3 W1 1 2 3 (by decide) (by decide) (by decide) _ Z1.out.symm
  rw [← hV1]
  clear hV1
  refine (HS.out s _ V1 (slE_keep E1.out S1.out) A1.out).mono ?_
  rintro e w2 ⟨v2, rfl, hv, g⟩
  have G2 := Lib.hid (belowT E1.out g)
  have A2 := Lib.hid hv
  have z1 := (tr_cells (blk_keep G2.out M1.out)).2.1
  clear hv g
  go_wp2_with fail
  obtain ⟨V2, hV2⟩ : ∃ V2, V2 = (w2.alloc (.cells #[.int .u64 0, .int .u64 0, .int .u64 4] 33)).alloc (.cells #[.int .u64 1, .int .u64 0, .int .u64 0] 33) := ⟨_, rfl⟩
  have E2 : Hid (Below w2.heap.size w2 V2) := by rw [hV2]; exact belowT below1 below1
  have B1 : Hid (SlE Enum V2 (.slice (some ⟨w2.heap.size, 0, none⟩) 3 3) [0, 0, 4]) := by rw [hV2]; exact slE_keep below1 (nums_lit3 w2 0 0 4 (by decide) (by decide) (by decide) _ rfl)
  have B2 : Hid (SlE Enum V2 (.slice (some ⟨w2.heap.size + 1, 0, none⟩) 3 3) [1, 0, 0]) := by rw [hV2]; exact nums_lit3 (w2.alloc (.cells #[.int .u64 0, .int .u64 0, .int .u64 4] 33)) 1 0 0 (by decide) (by decide) (by decide) _ (by simp)
  rw [← hV2]
  clear hV2 z1
  refine (HP.out s _ _ _ V2 (slE_keep (belowT G2.out E2.out) S1.out) (slE_keep E2.out A2.out) B1.out B2.out).mono ?_
  rintro e w3 ⟨v3, rfl, hv, g⟩
  have G3 := Lib.hid (belowT G2.out (belowT E2.out g))
  have A3 := Lib.hid (slE_keep (belowT E2.out g) A2.out)
  have P3 := Lib.hid hv
  clear hv g
  go_wp2_with fail
  obtain ⟨V3, hV3⟩ : ∃ V, V = w3.alloc (.cells #[.int .u64 6, .int .u64 5, .int .u64 3] 33) := ⟨_, rfl⟩
  have E3 : Hid (Below w3.heap.size w3 V3) := by rw [hV3]; exact below1
  have C3 : Hid (SlE Enum V3 (.slice (some ⟨w3.heap.size, 0, none⟩) 3 3) [6, 5, 3]) := by rw [hV3]; exact nums_lit3 w3 6 5 3 (by decide) (by decide) (by decide) _ rfl
  rw [← hV3]
  clear hV3
  refine (HR.out _ _ [6, 5, 3] V3 (slE_keep E3.out A3.out) C3.out rfl).mono ?_
  rintro e w4 ⟨rfl, g⟩
  have G4 := Lib.hid (belowT G3.out (belowT E3.out g))
  have A4 := Lib.hid (slE_keep (belowT E3.out g) A3.out)
  have P4 := Lib.hid (slE_keep (belowT E3.out g) P3.out)
  clear g
  go_wp2_with fail
  obtain ⟨V4, hV4⟩ : ∃ V, V = w4.alloc (.cells #[.int .u64 9, .int .u64 9, .int .u64 7] 33) := ⟨_, rfl⟩
  have E4 : Hid (Below w4.heap.size w4 V4) := by rw [hV4]; exact below1
  have C4 : Hid (SlE Enum V4 (.slice (some ⟨w4.heap.size, 0, none⟩) 3 3) [9, 9, 7]) := by rw [hV4]; exact nums_lit3 w4 9 9 7 (by decide) (by decide) (by decide) _ rfl
  rw [← hV4]
  clear hV4
  refine (HR.out _ _ [9, 9, 7] V4 (slE_keep E4.out P4.out) C4.out rfl).mono ?_
  rintro e w5 ⟨rfl, g⟩
  have G5 := Lib.hid (belowT G4.out (belowT E4.out g))
  have A5 := Lib.hid (slE_keep (belowT E4.out g) A4.out)
  clear g
  go_wp2_with fail
  refine (HQ.out _ [6, 5, 3] w5 A5.out rfl).mono ?_
  rintro e w6 ⟨rfl, g⟩
  have G6 := Lib.hid (belowT G1.out (belowT G5.out g))
  clear g
  go_wp2_with fail
  go_ret
  exact ⟨rfl, G6.out⟩
end Go.Proofs.Ytonfmddjlhgglaa
