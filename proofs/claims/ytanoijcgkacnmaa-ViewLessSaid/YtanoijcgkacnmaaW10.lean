/-
  What is asked of package view's functions (contracts, by name); the law's own example.
-/
import Derived.Test.YtanoijcgkacnmaaR10Leads
import Derived.Test.YtanoijcgkacnmaaR10Bools
import Derived.Test.YtanoijcgkacnmaaR10From
import Derived.Test.YtanoijcgkacnmaaRt1
import Derived.Test.YtanoijcgkacnmaaTreeIs
namespace Go.Proofs.Ytanoijcgkacnmaa
open Go.RowKit

def BoosL (L : List Bool) (w : World) (e : Ending) (w' : World) : Prop := ∃ v, e = .returned v ∧ SlE Eboo w' v L ∧ Below w.heap.size w w'
theorem BoosIs.list {L : List Bool} {w w' : World} {e : Ending} (h : BoosIs L w e w') : BoosL L w e w' := by
  obtain ⟨v, h1, h2, h3⟩ := h
  exact ⟨v, h1, ownE_slE h2, h3⟩
def LeadsC : Prop := ∀ (s : SlV) (l : List Nd) (just : Nat) (fin : Int) (w : World), just < 18446744073709551616 → SlE Ene w (sv s) l → Calls Try.prog 11 #[.agg (tr ⟨s⟩), .int .u64 (just : Int), .int .i64 fin] w (BoosL (leadsT l just fin) w)
def LeafC : Prop := ∀ (s : SlV) (l : List Nd) (just : Nat) (fin i : Int) (w : World), just < 18446744073709551616 → l.length ≤ 1000 → SlE Ene w (sv s) l → Calls Try.prog 14 #[.agg (tr ⟨s⟩), .int .u64 (just : Int), .int .i64 fin, .int .i64 i] w fun e w' => e = .returned (.bool (leafT l just fin i)) ∧ Below w.heap.size w w'
def FromC : Prop := ∀ (s : SlV) (l : List Nd) (r : Rt) (fin : Int) (w : World), SlE Ene w (sv s) l → Calls Try.prog 15 #[.agg (tr ⟨s⟩), .agg (rc r), .int .i64 fin] w fun e w' => e = .returned (.int .i64 (fromT l r fin)) ∧ Below w.heap.size w w'
theorem enters_viewLeads : ∀ args w, (callFunc 11 args).run Try.prog w = .ok (.enter 11 args) w := entersE Try.func11 (by kernel_rfl) (by kernel_rfl)
theorem enters_viewLeaf : ∀ args w, (callFunc 14 args).run Try.prog w = .ok (.enter 14 args) w := entersE Try.func14 (by kernel_rfl) (by kernel_rfl)
theorem enters_viewFrom : ∀ args w, (callFunc 15 args).run Try.prog w = .ok (.enter 15 args) w := entersE Try.func15 (by kernel_rfl) (by kernel_rfl)

def viewL : List Nd := [⟨r1, -1, 0, 0⟩, ⟨r2, 0, 1, 1⟩, ⟨r3, 0, 2, 2⟩]
theorem view_leads : leadsT viewL 2 0 = [true, false, true] := by decide +kernel
theorem view_leaf2 : leafT viewL 2 0 2 = true := by decide +kernel
theorem view_leaf1 : leafT viewL 2 0 1 = false := by decide +kernel
theorem view_from0 : fromT viewL r3 0 = 2 := by decide +kernel
theorem view_from1 : fromT viewL r3 1 = 1 := by decide +kernel
@[local go_sem] theorem put_slot1 (x : Nd) : putSeg (ne x) 33 #[.int .u64 1] = ne { x with slot := 1 } := ne_put_slot x 1
@[local go_sem] theorem put_slot2 (x : Nd) : putSeg (ne x) 33 #[.int .u64 2] = ne { x with slot := 2 } := ne_put_slot x 2
@[local go_sem] theorem put_just1 (x : Nd) : putSeg (ne x) 34 #[.int .u64 1] = ne { x with just := 1 } := ne_put_just x 1
@[local go_sem] theorem put_just2 (x : Nd) : putSeg (ne x) 34 #[.int .u64 2] = ne { x with just := 2 } := ne_put_just x 2
theorem boos_lit3 (w : World) (x y z : Bool) (b : Nat) (hb : b = w.heap.size) : SlE Eboo (w.alloc (.cells #[.bool x, .bool y, .bool z] 4)) (.slice (some ⟨b, 0, none⟩) 3 3) [x, y, z] :=
  slE_lit w _ 3 _ _ b rfl hb (by simp [cellsE, Eboo])

set_option maxRecDepth 100000 in
set_option maxHeartbeats 8000000 in
theorem awake_any10 (HLs : LeadsC) (HLf : LeafC) (HFr : FromC) (w : World) : Calls Try.prog 9 #[] w fun e w' => e = .returned (.bool true) ∧ Below w.heap.size w w' := by
  have HS : Hid (∀ (s : SlV) (W : World), SlE Ene W (sv s) viewL → Calls Try.prog 11 #[.agg (tr ⟨s⟩), .int .u64 2, .int .i64 0] W (BoosL [true, false, true] W)) := fun s W h => by
    have := HLs s viewL 2 0 W (by decide) h
    rwa [view_leads] at this
  have HL2 : Hid (∀ (s : SlV) (W : World), SlE Ene W (sv s) viewL → Calls Try.prog 14 #[.agg (tr ⟨s⟩), .int .u64 2, .int .i64 0, .int .i64 2] W fun e w' => e = .returned (.bool true) ∧ Below W.heap.size W w') := fun s W h => by
    have := HLf s viewL 2 0 2 W (by decide) (by decide) h
    rwa [view_leaf2] at this
  have HL1 : Hid (∀ (s : SlV) (W : World), SlE Ene W (sv s) viewL → Calls Try.prog 14 #[.agg (tr ⟨s⟩), .int .u64 2, .int .i64 0, .int .i64 1] W fun e w' => e = .returned (.bool false) ∧ Below W.heap.size W w') := fun s W h => by
    have := HLf s viewL 2 0 1 W (by decide) (by decide) h
    rwa [view_leaf1] at this
  have HF0 : Hid (∀ (s : SlV) (W : World), SlE Ene W (sv s) viewL → Calls Try.prog 15 #[.agg (tr ⟨s⟩), .agg (rc r3), .int .i64 0] W fun e w' => e = .returned (.int .i64 2) ∧ Below W.heap.size W w') := fun s W h => by
    have := HFr s viewL r3 0 W h
    rwa [view_from0] at this
  have HF1 : Hid (∀ (s : SlV) (W : World), SlE Ene W (sv s) viewL → Calls Try.prog 15 #[.agg (tr ⟨s⟩), .agg (rc r3), .int .i64 1] W fun e w' => e = .returned (.int .i64 1) ∧ Below W.heap.size W w') := fun s W h => by
    have := HFr s viewL r3 1 W h
    rwa [view_from1] at this
  have HB : Hid (∀ (v u : Value) (W : World), SlE Eboo W v [true, false, true] → SlE Eboo W u [true, false, true] → Calls Try.prog 10 #[v, u] W fun e w' => e = .returned (.bool true) ∧ Below W.heap.size W w') := fun v u W h h' => ref10Bools v u _ _ W h h' (by decide)
  clear HLs HLf HFr
  go_enter Try.func9, Try.ntmps9
  go_wp2_with fail
  simp only [zne]
  obtain ⟨W, hW⟩ : ∃ W, W = (w.alloc (.cells (ne ⟨r1, -1, 0, 0⟩ ++ (ne ⟨r2, 0, 1, 1⟩ ++ ne ⟨r3, 0, 2, 2⟩)) 43)).alloc (.cells (tr ⟨⟨some ⟨w.heap.size, 0, none⟩, 3, 3⟩⟩) 24) := ⟨_, rfl⟩
  obtain ⟨hB, h0, h1, hz⟩ := heap2 w _ _ _ _ W hW
  have hs : SlE Ene W (.slice (some ⟨w.heap.size, 0, none⟩) 3 3) viewL := by
    rw [hW]
    refine slE_keep below1 (slE_lit _ viewL 3 _ _ w.heap.size rfl rfl ?_)
    rw [Array.toList_append, Array.toList_append, ne_list, ne_list, ne_list]
    simp [cellsE, Ene, viewL]
  have A : Hid (Tw w W (w.heap.size + 1) ⟨some ⟨w.heap.size, 0, none⟩, 3, 3⟩ viewL) := ⟨h1, hs, hB⟩
  rw [← hW]
  clear hB h0 h1 hz hs hW
  refine (HS.out _ W A.out.s).mono ?_
  rintro e w1 ⟨v1, rfl, hv, g⟩
  replace A := Lib.hid (A.out.keep g)
  have V := Lib.hid hv
  clear hv g
  go_wp2_with fail
  obtain ⟨W1, hW1⟩ : ∃ W1, W1 = w1.alloc (.cells #[.bool true, .bool false, .bool true] 4) := ⟨_, rfl⟩
  have U : Hid (SlE Eboo W1 (.slice (some ⟨w1.heap.size, 0, none⟩) 3 3) [true, false, true]) := by rw [hW1]; exact boos_lit3 w1 true false true _ rfl
  replace V : Hid (SlE Eboo W1 v1 [true, false, true]) := by rw [hW1]; exact slE_keep below1 V.out
  replace A : Hid (Tw w W1 (w.heap.size + 1) ⟨some ⟨w.heap.size, 0, none⟩, 3, 3⟩ viewL) := by rw [hW1]; exact A.out.keep below1
  rw [← hW1]
  clear hW1
  refine (HB.out _ _ W1 V.out U.out).mono ?_
  rintro e w2 ⟨rfl, g⟩
  replace A := Lib.hid (A.out.keep g)
  clear g
  have z1 := A.out.z1
  go_wp2_with fail
  refine (HL2.out _ w2 A.out.s).mono ?_
  rintro e w3 ⟨rfl, g⟩
  replace A := Lib.hid (A.out.keep g)
  clear g
  replace z1 := A.out.z1
  go_wp2_with fail
  refine (HL1.out _ w3 A.out.s).mono ?_
  rintro e w4 ⟨rfl, g⟩
  replace A := Lib.hid (A.out.keep g)
  clear g
  replace z1 := A.out.z1
  go_wp2_with fail
  refine (HF0.out _ w4 A.out.s).mono ?_
  rintro e w5 ⟨rfl, g⟩
  replace A := Lib.hid (A.out.keep g)
  clear g
  replace z1 := A.out.z1
  go_wp2_with fail
  refine (HF1.out _ w5 A.out.s).mono ?_
  rintro e w6 ⟨rfl, g⟩
  replace A := Lib.hid (A.out.keep g)
  clear g
  go_wp2_with fail
  go_ret
  exact ⟨rfl, A.out.g⟩
end Go.Proofs.Ytanoijcgkacnmaa
