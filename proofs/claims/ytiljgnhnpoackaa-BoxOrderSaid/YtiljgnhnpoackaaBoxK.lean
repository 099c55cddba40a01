/-
  Boxes in variables; awake of layer 5, walked.
-/
import Derived.Test.YtiljgnhnpoackaaBoxJ
namespace Go.Proofs.Ytiljgnhnpoackaa
open Go.RowKit

/-- A box in a variable's block, and its notes. -/
structure Vb (w : World) (g : Nat) (x : Bx) (l : List Nt) : Prop where
  m : w.heap[g]? = some (.cells (bx x) 24 (0, 0))
  s : SlE Ent w (sv x.l) l
theorem Vb.keep {w w' : World} {g : Nat} {x : Bx} {l : List Nt} (h : Vb w g x l) (k : Below w.heap.size w w') : Vb w' g x l := ⟨blk_keep k h.m, slE_keep k h.s⟩
theorem Vb.new {w : World} {x : Bx} {l : List Nt} (h : SlE Ent w (sv x.l) l) : Vb (w.alloc (.cells (bx x) 24)) w.heap.size x l := ⟨heap_alloc_last w _, slE_keep below1 h⟩
theorem Vb.lt {w : World} {g : Nat} {x : Bx} {l : List Nt} (h : Vb w g x l) : g < w.heap.size := (Array.getElem?_eq_some_iff.1 h.m).1
theorem bp_eq {b : Bx} {l : List Nt} {c : Int} {k : List Nt} {g d : Bool} (e : bp b l = ⟨c, k, g, d⟩) : ∃ s : SlV, b = ⟨c, s, g, d⟩ ∧ l = k := by
  obtain ⟨cap, s, lag, closed⟩ := b
  injection e with e1 e2 e3 e4
  subst e1 e2 e3 e4
  exact ⟨s, rfl, rfl⟩

def n1 : Nt := { znt with ver := 1 }
def n2 : Nt := { znt with ver := 2 }
set_option maxRecDepth 100000 in
set_option maxHeartbeats 1000000 in
theorem awake_any (w : World) : Calls Try.prog 9 #[] w fun e w' => e = .returned (.bool true) ∧ Below w.heap.size w w' := by
  have HN : Hid (∀ W, Calls Try.prog 17 #[.int .i64 1] W fun e w' => e = .returned (.tuple #[.agg (bx ⟨1, ⟨none, 0, 0⟩, false, false⟩), .bool true]) ∧ Below W.heap.size W w') := fun W => new_any 1 W
  have HP1 : Hid (∀ W, Calls Try.prog 11 #[.agg (bx ⟨1, ⟨none, 0, 0⟩, false, false⟩), .agg (nt { ver := 1, head := znt.head, fin := znt.fin })] W (BoxIs ⟨1, [n1], false, false⟩ W)) := fun W => by
    have := post_any ⟨1, ⟨none, 0, 0⟩, false, false⟩ n1 [] W (slE_nil _ _ _ _) (by simp)
    rwa [show postX Nt.ver (bp ⟨1, ⟨none, 0, 0⟩, false, false⟩ []) n1 = ⟨1, [n1], false, false⟩ from by simp [postX, fitB, mayX, lastB, risB, bp]] at this
  have HP2 : Hid (∀ W s, SlE Ent W (sv s) [n1] → Calls Try.prog 11 #[.agg (bx ⟨1, s, false, false⟩), .agg (nt { ver := 2, head := znt.head, fin := znt.fin })] W (BoxIs ⟨1, [n1], true, false⟩ W)) := fun W s h => by
    have := post_any ⟨1, s, false, false⟩ n2 [n1] W h (by simp)
    rwa [show postX Nt.ver (bp ⟨1, s, false, false⟩ [n1]) n2 = ⟨1, [n1], true, false⟩ from by simp [postX, fitB, mayX, lastB, risB, bp, n1, n2]] at this
  have HT : Hid (∀ W s, SlE Ent W (sv s) [n1] → Calls Try.prog 13 #[.agg (bx ⟨1, s, true, false⟩)] W (TakIs ⟨1, [], true, false⟩ n1 true W)) := fun W s h => by
    have := take_any ⟨1, s, true, false⟩ [n1] W h (by simp)
    have e0 : takeB Nt.ver (bp ⟨1, s, true, false⟩ [n1]) = true := by simp [takeB, mayX, risB, bp]
    rwa [show takeX Nt.ver (bp ⟨1, s, true, false⟩ [n1]) = ⟨1, [], true, false⟩ from by unfold takeX; rw [if_pos e0]; rfl, show takeN Nt.ver znt (bp ⟨1, s, true, false⟩ [n1]) = n1 from by unfold takeN; rw [if_pos e0]; rfl, e0] at this
  have HM : Hid (∀ W s, SlE Ent W (sv s) [n1] → Calls Try.prog 20 #[.agg (bx ⟨1, s, true, false⟩)] W fun e w' => e = .returned (.bool true) ∧ Below W.heap.size W w') := fun W s h => by
    have := may_any ⟨1, s, true, false⟩ [n1] W h
    rwa [show mayX Nt.ver (bp ⟨1, s, true, false⟩ [n1]) = true from by simp [mayX, risB, bp]] at this
  have HS : Hid (∀ W s, SlE Ent W (sv s) [n1] → Calls Try.prog 21 #[.agg (bx ⟨1, s, true, false⟩), .agg (bx ⟨1, s, true, false⟩)] W fun e w' => e = .returned (.bool true) ∧ Below W.heap.size W w') := fun W s h => by
    have := same_any ⟨1, s, true, false⟩ ⟨1, s, true, false⟩ [n1] [n1] W h h (by simp)
    rwa [sameB_refl] at this
  go_enter Try.func9, Try.ntmps9
  go_wp2_with fail
  refine (HN.out _).mono ?_
  rintro e w1 ⟨rfl, g1⟩
  have B1 := Lib.hid (belowT g1 (below1 (o := .cells (bx ⟨1, ⟨none, 0, 0⟩, false, false⟩) 24)))
  clear g1
  go_wp2_with fail
  refine (HP1.out _).mono ?_
  rintro e w2 ⟨b2, l2, rfl, e2, s2, g2⟩
  obtain ⟨q2, rfl, rfl⟩ := bp_eq e2
  have B2 := Lib.hid (belowT B1.out g2)
  have S2 := Lib.hid s2
  clear e2 s2 g2
  go_wp2_with fail
  refine (HP2.out _ _ S2.out).mono ?_
  rintro e w3 ⟨b3, l3, rfl, e3, s3, g3⟩
  obtain ⟨q3, rfl, rfl⟩ := bp_eq e3
  have B3 := Lib.hid (belowT B2.out (belowT g3 (below1 (o := .cells (bx ⟨1, q3, true, false⟩) 24))))
  have S3 := Lib.hid (slE_keep (below1 (o := .cells (bx ⟨1, q3, true, false⟩) 24)) s3)
  have V3 := Lib.hid (Vb.new (x := ⟨1, q3, true, false⟩) s3)
  clear e3 s3 g3
  go_wp2_with fail
  refine (HT.out _ _ S3.out).mono ?_
  rintro e w4 ⟨b4, l4, rfl, e4, s4, g4⟩
  obtain ⟨⟨p4, n4, c4⟩, rfl, rfl⟩ := bp_eq e4
  obtain rfl : n4 = 0 := (sv_len s4).symm
  have W4 := Lib.hid (belowT (belowT g4 (below1 (o := .cells (bx ⟨1, ⟨p4, 0, c4⟩, true, false⟩) 24))) (below1 (o := .cells (nt n1) 31)))
  have V4 := Lib.hid (V3.out.keep W4.out)
  have B4 := Lib.hid (belowT B3.out W4.out)
  have V40 := Lib.hid (V3.out.keep g4)
  obtain ⟨p3, c3, e5⟩ := slE_len V40.out.s (n := 1) rfl
  have hq : q3 = ⟨p3, 1, c3⟩ := by
    obtain ⟨a, b, c⟩ := q3
    unfold sv at e5
    injection e5 with e5 e6 e7
    subst e5 e6 e7
    rfl
  subst hq
  obtain ⟨_, x1, x2, _, x4, xl⟩ := bx_cells V40.out.m
  dsimp only at x1 x2
  rw [sv_mk] at x1
  clear e4 s4 g4 e5
  unfold n1
  go_wp2_with fail
  refine (HM.out _ _ V4.out.s).mono ?_
  rintro e w5 ⟨rfl, g5⟩
  have V5 := Lib.hid (V4.out.keep g5)
  have B5 := Lib.hid (belowT B4.out g5)
  obtain ⟨_, _, _, _, y4, yl⟩ := bx_cells V5.out.m
  clear g5
  go_wp2_with fail
  refine (HS.out _ _ V5.out.s).mono ?_
  rintro e w6 ⟨rfl, g6⟩
  go_wp2_with fail
  go_ret
  exact ⟨rfl, belowT B5.out g6⟩
end Go.Proofs.Ytiljgnhnpoackaa
