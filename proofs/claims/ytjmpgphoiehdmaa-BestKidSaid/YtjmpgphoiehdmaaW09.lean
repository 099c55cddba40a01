/-
  What is asked of package best's functions (contracts, by name); the law's own tree of two children, and its example.
-/
import Derived.Test.YtjmpgphoiehdmaaR09Pairs
import Derived.Test.YtjmpgphoiehdmaaR04IntsB
import Derived.Test.YtjmpgphoiehdmaaRt1
import Derived.Test.YtjmpgphoiehdmaaTreeIs
namespace Go.Proofs.Ytjmpgphoiehdmaa
open Go.RowKit

def PdsIs (L : List Pd) (w : World) (e : Ending) (w' : World) : Prop := ∃ v, e = .returned v ∧ SlE Epd w' v L ∧ Below w.heap.size w w'
theorem PairsIs.pds {L : List Pd} {w w' : World} {e : Ending} (h : PairsIs L w e w') : PdsIs L w e w' := by
  obtain ⟨v, h1, h2, h3⟩ := h
  exact ⟨v, h1, ownE_slE h2, h3⟩
def KidC : Prop := ∀ (s : SlV) (v u : Value) (l : List Nd) (a : List UInt64) (b : List Bool) (i : Int) (w : World), SlE Ene w (sv s) l → SlE Enum w v a → SlE Eboo w u b → Calls Try.prog 15 #[.agg (tr ⟨s⟩), v, u, .int .i64 i] w fun e w' => e = .returned (.int .i64 (kidZ l a b i)) ∧ Below w.heap.size w w'
def HeadC : Prop := ∀ (s : SlV) (v u : Value) (l : List Nd) (a : List UInt64) (b : List Bool) (i : Int) (w : World), SlE Ene w (sv s) l → SlE Enum w v a → SlE Eboo w u b → Calls Try.prog 17 #[.agg (tr ⟨s⟩), v, u, .int .i64 i] w fun e w' => e = .returned (.int .i64 (headZ l a b i)) ∧ Below w.heap.size w w'
def LineC : Prop := ∀ (s : SlV) (v u : Value) (l : List Nd) (a : List UInt64) (b : List Bool) (i : Int) (w : World), SlE Ene w (sv s) l → SlE Enum w v a → SlE Eboo w u b → Calls Try.prog 10 #[.agg (tr ⟨s⟩), v, u, .int .i64 i] w (ListIs (wayZ l a b i) w)
def AllC : Prop := ∀ (s : SlV) (v u : Value) (l : List Nd) (a : List UInt64) (b : List Bool) (w : World), SlE Ene w (sv s) l → SlE Enum w v a → SlE Eboo w u b → Calls Try.prog 13 #[.agg (tr ⟨s⟩), v, u] w (PdsIs (allZ l a b) w)
theorem enters_bestKid : ∀ args w, (callFunc 15 args).run Try.prog w = .ok (.enter 15 args) w := entersE Try.func15 (by kernel_rfl) (by kernel_rfl)
theorem enters_bestHead : ∀ args w, (callFunc 17 args).run Try.prog w = .ok (.enter 17 args) w := entersE Try.func17 (by kernel_rfl) (by kernel_rfl)
theorem enters_bestLine : ∀ args w, (callFunc 10 args).run Try.prog w = .ok (.enter 10 args) w := entersE Try.func10 (by kernel_rfl) (by kernel_rfl)
theorem enters_bestAll : ∀ args w, (callFunc 13 args).run Try.prog w = .ok (.enter 13 args) w := entersE Try.func13 (by kernel_rfl) (by kernel_rfl)

def forkL : List Nd := [⟨r1, -1, 0, 0⟩, ⟨r2, 0, 1, 0⟩, ⟨r3, 0, 2, 0⟩]
theorem fork_kid : kidZ forkL [8, 3, 5] [true, true, true] 0 = 2 := by decide +kernel
theorem fork_head : headZ forkL [8, 3, 5] [true, true, false] 0 = 1 := by decide +kernel
theorem fork_way : (wayZ forkL [8, 3, 5] [true, true, true] 0).length = 2 := by decide +kernel
theorem fork_all : (allZ forkL [8, 3, 5] [true, true, true]).length = 3 := by decide +kernel
@[local go_sem] theorem put_slot1 (x : Nd) : putSeg (ne x) 33 #[.int .u64 1] = ne { x with slot := 1 } := ne_put_slot x 1
@[local go_sem] theorem put_slot2 (x : Nd) : putSeg (ne x) 33 #[.int .u64 2] = ne { x with slot := 2 } := ne_put_slot x 2

set_option maxRecDepth 100000 in
set_option maxHeartbeats 4000000 in
theorem fork (w : World) : Calls Try.prog 23 #[] w (TreeIs forkL w) := by
  go_enter Try.func23, Try.ntmps23
  go_wp2_with fail
  simp only [zne]
  obtain ⟨W, hW⟩ : ∃ W, W = (w.alloc (.cells (tr ⟨⟨some ⟨w.heap.size + 1, 0, none⟩, 3, 3⟩⟩) 24)).alloc (.cells (ne ⟨r1, -1, 0, 0⟩ ++ (ne ⟨r2, 0, 1, 0⟩ ++ ne ⟨r3, 0, 2, 0⟩)) 43) := ⟨_, rfl⟩
  obtain ⟨hB, h0, h1, hz⟩ := heap2 w _ _ _ _ W hW
  have hs : SlE Ene W (.slice (some ⟨w.heap.size + 1, 0, none⟩) 3 3) forkL := by
    rw [hW]
    refine slE_lit _ forkL 3 _ _ (w.heap.size + 1) rfl (by simp) ?_
    rw [Array.toList_append, Array.toList_append, ne_list, ne_list, ne_list]
    simp [cellsE, Ene, forkL]
  exact bodyPost_ret (results_agg1 Try.isAgg24 Try.sizeOf24 _ 0 rfl _ _ _ _ rfl (by rw [← hW]; exact ldA_block h0 (tr_size _))) rfl ⟨⟨some ⟨w.heap.size + 1, 0, none⟩, 3, 3⟩, rfl, by rw [← hW]; exact hs, by rw [← hW]; exact hB⟩

theorem nums_lit3' (w : World) (x y z : Nat) (hx : x < 18446744073709551616) (hy : y < 18446744073709551616) (hz : z < 18446744073709551616) (b : Nat) (hb : b = w.heap.size) :
    SlE Enum (w.alloc (.cells #[.int .u64 (x : Int), .int .u64 (y : Int), .int .u64 (z : Int)] 38)) (.slice (some ⟨b, 0, none⟩) 3 3) [UInt64.ofNat x, UInt64.ofNat y, UInt64.ofNat z] :=
  slE_lit w _ 3 _ _ b rfl hb (by simp [cellsE, Enum, num_nat hx, num_nat hy, num_nat hz])
theorem boos_lit3 (w : World) (x y z : Bool) (b : Nat) (hb : b = w.heap.size) : SlE Eboo (w.alloc (.cells #[.bool x, .bool y, .bool z] 4)) (.slice (some ⟨b, 0, none⟩) 3 3) [x, y, z] :=
  slE_lit w _ 3 _ _ b rfl hb (by simp [cellsE, Eboo])

set_option maxRecDepth 100000 in
set_option maxHeartbeats 8000000 in
theorem awake_any9 (HKi : KidC) (HHe : HeadC) (HLi : LineC) (HAl : AllC) (w : World) : Calls Try.prog 8 #[] w fun e w' => e = .returned (.bool true) ∧ Below w.heap.size w w' := by
  have HK : Hid (∀ (s : SlV) (v u : Value) (W : World), SlE Ene W (sv s) forkL → SlE Enum W v [8, 3, 5] → SlE Eboo W u [true, true, true] → Calls Try.prog 15 #[.agg (tr ⟨s⟩), v, u, .int .i64 0] W fun e w' => e = .returned (.int .i64 2) ∧ Below W.heap.size W w') := fun s v u W h h1 h2 => by
    have := HKi s v u forkL [8, 3, 5] [true, true, true] 0 W h h1 h2
    rwa [fork_kid] at this
  have HH : Hid (∀ (s : SlV) (v u : Value) (W : World), SlE Ene W (sv s) forkL → SlE Enum W v [8, 3, 5] → SlE Eboo W u [true, true, false] → Calls Try.prog 17 #[.agg (tr ⟨s⟩), v, u, .int .i64 0] W fun e w' => e = .returned (.int .i64 1) ∧ Below W.heap.size W w') := fun s v u W h h1 h2 => by
    have := HHe s v u forkL [8, 3, 5] [true, true, false] 0 W h h1 h2
    rwa [fork_head] at this
  have HL := Lib.hid (fun (s : SlV) (v u : Value) (W : World) (h : SlE Ene W (sv s) forkL) (h1 : SlE Enum W v [8, 3, 5]) (h2 : SlE Eboo W u [true, true, true]) => HLi s v u forkL [8, 3, 5] [true, true, true] 0 W h h1 h2)
  have HA := Lib.hid (fun (s : SlV) (v u : Value) (W : World) (h : SlE Ene W (sv s) forkL) (h1 : SlE Enum W v [8, 3, 5]) (h2 : SlE Eboo W u [true, true, true]) => HAl s v u forkL [8, 3, 5] [true, true, true] W h h1 h2)
  have HLn := Lib.hid fork_way
  have HAn := Lib.hid fork_all
  generalize wayZ forkL [8, 3, 5] [true, true, true] 0 = KL at *
  generalize allZ forkL [8, 3, 5] [true, true, true] = KA at *
  obtain ⟨V0, hV0⟩ : ∃ V, V = ((w.alloc (.cells #[.int .u64 8, .int .u64 3, .int .u64 5] 38)).alloc (.cells #[.bool true, .bool true, .bool true] 4)).alloc (.cells #[.bool true, .bool true, .bool false] 4) := ⟨_, rfl⟩
  have G0 : Hid (Below w.heap.size w V0) := by rw [hV0]; exact belowT (belowT below1 below1) below1
  have S1 : Hid (SlE Enum V0 (.slice (some ⟨w.heap.size, 0, none⟩) 3 3) [8, 3, 5]) := by rw [hV0]; exact slE_keep (belowT below1 below1) (nums_lit3' w 8 3 5 (by decide) (by decide) (by decide) _ rfl)
  have S2 : Hid (SlE Eboo V0 (.slice (some ⟨w.heap.size + 1, 0, none⟩) 3 3) [true, true, true]) := by rw [hV0]; exact slE_keep below1 (boos_lit3 _ true true true _ (by simp))
  have S3 : Hid (SlE Eboo V0 (.slice (some ⟨w.heap.size + 1 + 1, 0, none⟩) 3 3) [true, true, false]) := by rw [hV0]; exact boos_lit3 _ true true false _ (by simp)
  have HV := Lib.hid hV0
  clear hV0 HKi HHe HLi HAl
  go_enter Try.func8, Try.ntmps8
  go_wp2_with fail
  rw [← HV.out]
  refine (fork _).mono ?_
  rintro e w1 ⟨s, rfl, hs, g⟩
  have T := Lib.hid hs
  replace S1 := Lib.hid (slE_keep g S1.out)
  replace S2 := Lib.hid (slE_keep g S2.out)
  replace S3 := Lib.hid (slE_keep g S3.out)
  replace G0 := Lib.hid (belowT G0.out g)
  clear hs g
  go_wp2_with fail
  refine (HK.out s _ _ w1 T.out S1.out S2.out).mono ?_
  rintro e w2 ⟨rfl, g⟩
  replace S1 := Lib.hid (slE_keep g S1.out)
  replace S2 := Lib.hid (slE_keep g S2.out)
  replace S3 := Lib.hid (slE_keep g S3.out)
  replace G0 := Lib.hid (belowT G0.out g)
  clear g T
  go_wp2_with fail
  refine (fork _).mono ?_
  rintro e w3 ⟨s, rfl, hs, g⟩
  have T := Lib.hid hs
  replace S1 := Lib.hid (slE_keep g S1.out)
  replace S2 := Lib.hid (slE_keep g S2.out)
  replace S3 := Lib.hid (slE_keep g S3.out)
  replace G0 := Lib.hid (belowT G0.out g)
  clear hs g
  go_wp2_with fail
  refine (HH.out s _ _ w3 T.out S1.out S3.out).mono ?_
  rintro e w4 ⟨rfl, g⟩
  replace S1 := Lib.hid (slE_keep g S1.out)
  replace S2 := Lib.hid (slE_keep g S2.out)
  replace G0 := Lib.hid (belowT G0.out g)
  clear g T S3
  go_wp2_with fail
  refine (fork _).mono ?_
  rintro e w5 ⟨s, rfl, hs, g⟩
  have T := Lib.hid hs
  replace S1 := Lib.hid (slE_keep g S1.out)
  replace S2 := Lib.hid (slE_keep g S2.out)
  replace G0 := Lib.hid (belowT G0.out g)
  clear hs g
  go_wp2_with fail
  refine (HL.out s _ _ w5 T.out S1.out S2.out).mono ?_
  rintro e w6 ⟨v, rfl, hv, g⟩
  obtain ⟨pv, cv, rfl⟩ := slE_len hv HLn.out
  replace S1 := Lib.hid (slE_keep g S1.out)
  replace S2 := Lib.hid (slE_keep g S2.out)
  replace G0 := Lib.hid (belowT G0.out g)
  clear g T hv
  go_wp2_with fail
  refine (fork _).mono ?_
  rintro e w7 ⟨s, rfl, hs, g⟩
  have T := Lib.hid hs
  replace S1 := Lib.hid (slE_keep g S1.out)
  replace S2 := Lib.hid (slE_keep g S2.out)
  replace G0 := Lib.hid (belowT G0.out g)
  clear hs g
  go_wp2_with fail
  refine (HA.out s _ _ w7 T.out S1.out S2.out).mono ?_
  rintro e w8 ⟨v, rfl, hv, g⟩
  obtain ⟨pa, ca, rfl⟩ := slE_len hv HAn.out
  replace G0 := Lib.hid (belowT G0.out g)
  clear g T hv S1 S2
  go_wp2_with fail
  go_ret
  exact ⟨rfl, G0.out⟩
end Go.Proofs.Ytjmpgphoiehdmaa
