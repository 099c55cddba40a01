/-
  Package wire: Block and Att, walked.
-/
import Derived.Test.YtjdpndclgmdahaaWireC
namespace Go.Proofs.Ytjdpndclgmdahaa
open Go.RowKit

/-- A result's block, and behind it a variable's: what they hold, all else as it was. -/
structure St (T : TypeId) (z : Array Value) (w W : World) (c : Array Value) : Prop where
  below : Below w.heap.size w W
  out : W.heap[w.heap.size + 1]? = some (.cells c T (0, 0))
  res : W.heap[w.heap.size]? = some (.cells z T (0, 0))
section
variable {T : TypeId} {z : Array Value} {w W : World} {c : Array Value}
theorem St.start (w : World) (T : TypeId) (z c : Array Value) : St T z w ((w.alloc (.cells z T)).alloc (.cells c T)) c :=
  ⟨((Below.refl w.heap.size w).alloc (Nat.le_refl _) _).alloc (by simp) _, heap_alloc2_new w _ _, heap_alloc2_old w _ _⟩
theorem St.call (h : St T z w W c) {w' : World} (hb : Below W.heap.size W w') : St T z w w' c := by
  have h1 := (Array.getElem?_eq_some_iff.1 h.out).1
  exact ⟨belowT h.below hb, by rw [hb.block _ h1]; exact h.out, by rw [hb.block _ (by omega)]; exact h.res⟩
theorem St.store (h : St T z w W c) (o : Nat) (r : Array Value) (hr : o + r.size ≤ c.size) : St T z w (stA W (.pointer (some ⟨w.heap.size + 1, o, none⟩)) (.agg r)) (putSeg c o r) :=
  ⟨below_stA h.below (by omega), heap_stA_same h.out hr, by rw [heap_stA (by omega)]; exact h.res⟩
theorem St.set (h : St T z w W c) (o : Nat) (v : Value) (hr : o < c.size) : St T z w (W.setCell ⟨w.heap.size + 1, o, none⟩ v) (putSeg c o #[v]) :=
  ⟨h.below.setCell (by show w.heap.size ≤ w.heap.size + 1; omega) _, by rw [heap_setCell_same h.out, setIfInBounds_seg hr], by rw [Below.heap_setCell _ _ _ _ (by show w.heap.size ≠ w.heap.size + 1; omega)]; exact h.res⟩
theorem St.to (h : St T z w W c) {c' : Array Value} (e : c = c') : St T z w W c' := e ▸ h
theorem St.wr (h : St T z w W c) (o n : Nat) (hr : o + n ≤ c.size) : wrA W (.pointer (some ⟨w.heap.size + 1, o, none⟩)) n = true := wrA_mid h.out hr
theorem St.fz (h : St T z w W c) (o : Nat) : W.frozen? ⟨w.heap.size + 1, o, none⟩ = false := frozen_of_row _ _ _ _ _ h.out
theorem St.ld (h : St T z w W c) (n : Nat) (hn : c.size = n) : ldA W (.pointer (some ⟨w.heap.size + 1, 0, none⟩)) n = some c := ldA_block h.out hn
theorem St.wr0 (h : St T z w W c) (n : Nat) (hn : z.size = n) : wrA W (.pointer (some ⟨w.heap.size, 0, none⟩)) n = true := wrA_block h.res hn
end
@[go_sem ↓] theorem build_block (ρ : Operand → Value) (dst : Option Tmp) (ty : TypeId) (pos : String) (after : Array Edge) (guard : Option (Nat × Bool)) (w : World) :
    (execOp ρ { dst, op := .build 26 #[], type := ty, pos, after, guard }).run Try.prog w = .ok (.value (.agg (bc zb))) w := by
  unfold execOp
  simp only [Instr.build, Sem.run_bind, zero_block, Result.andThen_ok, run_underlying Try.underlying26]
  simp [Instr.fill, Value.cells]
@[go_sem ↓] theorem build_att (ρ : Operand → Value) (dst : Option Tmp) (ty : TypeId) (pos : String) (after : Array Edge) (guard : Option (Nat × Bool)) (w : World) :
    (execOp ρ { dst, op := .build 30 #[], type := ty, pos, after, guard }).run Try.prog w = .ok (.value (.agg (ac za))) w := by
  unfold execOp
  simp only [Instr.build, Sem.run_bind, zero_att, Result.andThen_ok, run_underlying Try.underlying30]
  simp [Instr.fill, Value.cells]

def BlockIs (l : List UInt8) (w : World) (e : Ending) (w' : World) : Prop := e = .returned (.tuple #[.agg (bc (blkOf l)), .bool (isB l)]) ∧ Below w.heap.size w w'
def AttIs (l : List UInt8) (w : World) (e : Ending) (w' : World) : Prop := e = .returned (.tuple #[.agg (ac (attOf l)), .bool (isA l)]) ∧ Below w.heap.size w w'

set_option maxRecDepth 100000 in
set_option maxHeartbeats 1000000 in
theorem block_no (v : Value) (l : List UInt8) (w : World) (h : SlB w v l) (hB : isB l = false) : Calls Try.prog 12 #[v] w (BlockIs l w) := by
  have HS := Lib.hid h; clear h
  have b0 : Below w.heap.size w (w.alloc (.cells (bc zb) 26)) := (Below.refl w.heap.size w).alloc (Nat.le_refl _) _
  have c1 := isOf_any v l 1 81 (by omega) _ (slB_keep b0 HS.out)
  rw [show headIs l 1 81 = isB l from rfl, hB] at c1
  have HB := Lib.hid hB
  clear hB
  go_enter Try.func12, Try.ntmps12
  go_wp2_with fail
  refine c1.mono ?_
  rintro e w1 ⟨rfl, rfl⟩
  clear c1
  go_wp2_with fail
  exact bodyPost_ret (results_agg2 Try.isAgg26 Try.sizeOf26 _ 2 3 rfl _ _ _ (bc zb) _ rfl rfl (by go_simp)) rfl ⟨by rw [blkOf_not HB.out, HB.out]; rfl, by assumption⟩
theorem isB_len {l : List UInt8} (h : isB l = true) : l.length = 81 := by
  unfold isB at h
  rw [Bool.and_eq_true, decide_eq_true_iff] at h
  exact h.1
theorem isA_len {l : List UInt8} (h : isA l = true) : l.length = 123 := by
  unfold isA at h
  rw [Bool.and_eq_true, decide_eq_true_iff] at h
  exact h.1

set_option maxRecDepth 100000 in
set_option maxHeartbeats 2000000 in
theorem block_yes (v : Value) (l : List UInt8) (w : World) (h : SlB w v l) (hB : isB l = true) : Calls Try.prog 12 #[v] w (BlockIs l w) := by
  have HS := Lib.hid h; clear h
  have hl := isB_len hB
  have b0 : Below w.heap.size w (w.alloc (.cells (bc zb) 26)) := (Below.refl w.heap.size w).alloc (Nat.le_refl _) _
  have c1 := isOf_any v l 1 81 (by omega) _ (slB_keep b0 HS.out)
  rw [show headIs l 1 81 = isB l from rfl, hB] at c1
  have HE : Hid (Ending.returned (.tuple #[.agg (bc (getB l)), .bool true]) = .returned (.tuple #[.agg (bc (blkOf l)), .bool (isB l)])) := by
    show _ = _
    unfold blkOf
    rw [if_pos hB, hB]
  obtain ⟨p, cap, rfl, hcap⟩ := slB_shape HS.out
  obtain ⟨v0, hv0, hs0⟩ := cut_fromB p cap l 1 (by omega) hcap
  replace hv0 : cutFB (.slice p l.length cap) (.int .i64 1) = some v0 := hv0
  obtain ⟨l1, hl1⟩ : ∃ l1, l1 = l.drop 1 := ⟨_, rfl⟩
  obtain ⟨l2, hl2⟩ : ∃ l2, l2 = l.drop 33 := ⟨_, rfl⟩
  obtain ⟨l3, hl3⟩ : ∃ l3, l3 = l.drop 65 := ⟨_, rfl⟩
  obtain ⟨l4, hl4⟩ : ∃ l4, l4 = l.drop 73 := ⟨_, rfl⟩
  have HG : Hid (getB l = ⟨rtOf l1, rtOf l2, unnum l3, unnum l4⟩) := by show _ = _; rw [hl1, hl2, hl3, hl4]; rfl
  have HS0 := Lib.hid (hs0 _ HS.out)
  rw [← hl1] at HS0
  have H1 : Hid (32 ≤ l1.length) := by show _ ≤ _; rw [hl1, List.length_drop]; omega
  have H2 : Hid (32 ≤ l2.length) := by show _ ≤ _; rw [hl2, List.length_drop]; omega
  have H3 : Hid (8 ≤ l3.length) := by show _ ≤ _; rw [hl3, List.length_drop]; omega
  have H4 : Hid (8 ≤ l4.length) := by show _ ≤ _; rw [hl4, List.length_drop]; omega
  have E2 : Hid (l1.drop 32 = l2) := by show _ = _; rw [hl1, hl2, List.drop_drop]
  have E3 : Hid (l2.drop 32 = l3) := by show _ = _; rw [hl2, hl3, List.drop_drop]
  have E4 : Hid (l3.drop 8 = l4) := by show _ = _; rw [hl3, hl4, List.drop_drop]
  clear hB hs0 b0 hl hl1 hl2 hl3 hl4
  have HZ0 := Lib.hid (St.start w 26 (bc zb) (bc zb))
  go_enter Try.func12, Try.ntmps12
  go_wp2_with fail
  refine c1.mono ?_
  rintro e w1 ⟨rfl, rfl⟩
  clear c1
  go_wp2_with fail
  refine (takeRoot_any v0 l1 H1.out _ (slB_keep HZ0.out.below HS0.out)).mono ?_
  rintro e w1 ⟨v1, rfl, hs1, hb1⟩
  have HZ1 := Lib.hid (HZ0.out.call hb1)
  rw [E2.out] at hs1
  have HS1 := Lib.hid (hs1 _ HS0.out)
  have r1 := HZ1.out.wr 0 32 (by rw [bc_size]; omega)
  have HY1 := Lib.hid ((HZ1.out.store 0 (rc (rtOf l1)) (by rw [bc_size, rc_size]; omega)).to (bc_root zb _))
  clear hs1 hb1 hv0
  go_wp2_with fail
  refine (takeRoot_any v1 l2 H2.out _ (slB_keep HY1.out.below HS1.out)).mono ?_
  rintro e w2 ⟨v2, rfl, hs2, hb2⟩
  have HZ2 := Lib.hid (HY1.out.call hb2)
  rw [E3.out] at hs2
  have HS2 := Lib.hid (hs2 _ HS1.out)
  have r2 := HZ2.out.wr 32 32 (by rw [bc_size]; omega)
  have HY2 := Lib.hid ((HZ2.out.store 32 (rc (rtOf l2)) (by rw [bc_size, rc_size]; omega)).to (bc_parent _ _))
  clear hs2 hb2 r1
  go_wp2_with fail
  refine (takeNumber_any v2 l3 H3.out _ (slB_keep HY2.out.below HS2.out)).mono ?_
  rintro e w3 ⟨v3, rfl, hs3, hb3⟩
  have HZ3 := Lib.hid (HY2.out.call hb3)
  rw [E4.out] at hs3
  have HS3 := Lib.hid (hs3 _ HS2.out)
  have r3 := blk_slot HZ3.out.out
  have q3 := HZ3.out.fz 64
  have HY3 := Lib.hid ((HZ3.out.set 64 (num (unnum l3)) (by rw [bc_size]; omega)).to (bc_slot _ _))
  clear hs3 hb3 r2
  go_wp2_with fail
  refine (takeNumber_any v3 l4 H4.out _ (slB_keep HY3.out.below HS3.out)).mono ?_
  rintro e w4 ⟨v4, rfl, hs4, hb4⟩
  have HZ4 := Lib.hid (HY3.out.call hb4)
  have r4 := blk_just HZ4.out.out
  have q4 := HZ4.out.fz 65
  have HY4 := Lib.hid ((HZ4.out.set 65 (num (unnum l4)) (by rw [bc_size]; omega)).to (bc_just _ _))
  have l4' := HY4.out.ld 66 (bc_size _)
  have t4 := HY4.out.wr0 66 (bc_size _)
  have HT4 := Lib.hid t4
  clear hs4 hb4 r3 q3
  simp only [num] at l4' t4
  go_wp2_with fail
  refine bodyPost_ret (results_agg2 Try.isAgg26 Try.sizeOf26 _ 2 3 rfl _ _ _ _ _ rfl rfl (ldA_stA_same HT4.out (bc_size _))) rfl ⟨?_, below_stA HY4.out.below (Nat.le_refl _)⟩
  rw [← HE.out, HG.out]
  rfl
theorem block_any (v : Value) (l : List UInt8) (w : World) (h : SlB w v l) : Calls Try.prog 12 #[v] w (BlockIs l w) := by
  cases hB : isB l with
  | true => exact block_yes v l w h hB
  | false => exact block_no v l w h hB
end Go.Proofs.Ytjdpndclgmdahaa
