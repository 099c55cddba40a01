/-
  Package skip: At, Meet, and the functions that they hand on.
-/
import Derived.Test.YtnmljjmaejmlfaaP07Near
import Derived.Test.YtnmljjmaejmlfaaP06Above
namespace Go.Proofs.Ytnmljjmaejmlfaa
open Go.RowKit

set_option maxRecDepth 100000 in
set_option maxHeartbeats 1000000 in
theorem skipAt1 (bt bq b1 o1 n cp x : Nat) (q : UInt64) (l : List Nd) (w : World) (ht : w.heap[bt]? = some (.cells (tr ⟨⟨some ⟨b1, o1, none⟩, n, cp⟩⟩) 24 (0, 0))) (hq : w.cell? ⟨bq, 0, none⟩ = some (.int .u64 (q.toNat : Int))) (hr : w.rangeAt b1 o1 (cellsE Ene l)) (hl : l.length = n) (hx : x < n) :
    Calls Try.prog 32 #[.int .i64 (x : Int), .pointer (some ⟨bt, 0, none⟩), .pointer (some ⟨bq, 0, none⟩)] w fun e w' => e = .returned (.bool (decide (sl l x ≤ q.toNat))) ∧ Below w.heap.size w w' := by
  obtain ⟨z0, z1, zl⟩ := tr_cells ht
  dsimp only at z0
  rw [sv_mk] at z0
  have y1 := nds_slot hr (i := x) (by omega)
  obtain ⟨r, hr'⟩ : ∃ r, r = decide (sl l x ≤ q.toNat) := ⟨_, rfl⟩
  rw [← hr']
  have t1 : decide ((nd l x).slot.toNat ≤ q.toNat) = r := hr'.symm
  have t1' : decide (((nd l x).slot.toNat : Int) ≤ (q.toNat : Int)) = r := by rw [hr']; congr 1; rw [eq_iff_iff]; unfold sl; omega
  have i0 : (0 : Int) ≤ (x : Int) := by omega
  have i1 : (x : Int) < (n : Int) := by omega
  clear hr' ht hr hl hx
  go_enter Try.func32, Try.ntmps32
  go_wp2_with fail
  go_quiet (fail)
  go_wp2_with fail
  go_ret
  exact ⟨rfl, belowD (Below.refl _ _) _⟩
theorem enters_at1 : ∀ args w, (callFunc 32 args).run Try.prog w = .ok (.enter 32 args) w := entersE Try.func32 (by kernel_rfl) (by kernel_rfl)

set_option maxRecDepth 100000 in
set_option maxHeartbeats 4000000 in
theorem skipAt (s : SlV) (l : List Nd) (i : Int) (q : UInt64) (w : World) (h : SlE Ene w (sv s) l) :
    Calls Try.prog 17 #[.agg (tr ⟨s⟩), .int .i64 i, .int .u64 (q.toNat : Int)] w fun e w' => e = .returned (.int .i64 (atZ l i q.toNat)) ∧ Below w.heap.size w w' := by
  obtain ⟨W0, hW0⟩ : ∃ W0, W0 = (w.alloc (.cells (tr ⟨s⟩) 24)).alloc (.cells #[.int .u64 (q.toNat : Int)] 25) := ⟨_, rfl⟩
  obtain ⟨hB, h0, h1, hz⟩ := heap2 w _ _ _ _ W0 hW0
  have HB := Lib.hid hB
  have HS := Lib.hid (slE_keep hB h)
  have hN : Calls Try.prog 31 #[.agg (tr ⟨s⟩), .int .i64 i, .func (.func 32) #[] #[.pointer (some ⟨w.heap.size, 0, none⟩), .pointer (some ⟨w.heap.size + 1, 0, none⟩)]] W0 fun e w' => e = .returned (.int .i64 (atZ l i q.toNat)) ∧ Below W0.heap.size W0 w' := by
    by_cases hk : isT l i = true
    · obtain ⟨hm, hk0, hk1⟩ := isT_iff.1 hk
      obtain ⟨i', rfl⟩ : ∃ i' : Nat, i = i' := ⟨i.toNat, by omega⟩
      have hi : i' < l.length := by omega
      rw [atZ_nat hm hi]
      have hl := sv_lenN h
      obtain ⟨p, n, cp⟩ := s
      dsimp only at hl
      obtain ⟨b1, o1, rfl, q1, x1⟩ := slE_ptr HS.out hm.pos
      exact skipNearest_yes 32 _ enters_at1 _ l i' (fun k => decide (sl l k ≤ q.toNat)) _ W0 HS.out hm hi (near_at_mono hm q.toNat) (near_at hm hi q.toNat)
        (fun x W hx g => skipAt1 w.heap.size (w.heap.size + 1) b1 o1 n cp x q l W (blk_keep g h0) (cell_of_box (blk_keep g h1)).1 (keepR g x1) hl (by omega))
    · have hk' : isT l i = false := by simpa using hk
      unfold atZ
      rw [hk', if_neg Bool.false_ne_true]
      exact skipNearest_no 32 _ s l i W0 HS.out hk'
  have HNN := Lib.hid hN
  have HW := Lib.hid hW0
  clear hW0 h hB h0 h1 hz hN
  go_enter Try.func17, Try.ntmps17
  go_wp2_with fail
  rw [← HW.out]
  refine HNN.out.mono ?_
  rintro e w1 ⟨rfl, g1⟩
  have G1 := Lib.hid (belowT HB.out g1)
  clear g1
  go_wp2_with fail
  go_ret
  exact ⟨rfl, G1.out⟩
theorem enters_skipAt : ∀ args w, (callFunc 17 args).run Try.prog w = .ok (.enter 17 args) w := entersE Try.func17 (by kernel_rfl) (by kernel_rfl)

set_option maxRecDepth 100000 in
set_option maxHeartbeats 1000000 in
theorem skipMeet1 (bt bb : Nat) (s : SlV) (x b : Int) (l : List Nd) (w : World) (ht : w.heap[bt]? = some (.cells (tr ⟨s⟩) 24 (0, 0))) (hb : w.cell? ⟨bb, 0, none⟩ = some (.int .i64 b)) (h : SlE Ene w (sv s) l) :
    Calls Try.prog 34 #[.int .i64 x, .pointer (some ⟨bt, 0, none⟩), .pointer (some ⟨bb, 0, none⟩)] w fun e w' => e = .returned (.bool (aboveZ l x b)) ∧ Below w.heap.size w w' := by
  obtain ⟨z0, z1, zl⟩ := tr_cells ht
  have HC := Lib.hid (treeAbove s l x b w h)
  clear z0 ht h
  go_enter Try.func34, Try.ntmps34
  go_wp2_with fail
  refine HC.out.mono ?_
  rintro e w1 ⟨rfl, g1⟩
  go_wp2_with fail
  go_ret
  exact ⟨rfl, g1⟩
theorem enters_meet1 : ∀ args w, (callFunc 34 args).run Try.prog w = .ok (.enter 34 args) w := entersE Try.func34 (by kernel_rfl) (by kernel_rfl)

set_option maxRecDepth 100000 in
set_option maxHeartbeats 4000000 in
theorem skipMeet (s : SlV) (l : List Nd) (a b : Int) (w : World) (h : SlE Ene w (sv s) l) :
    Calls Try.prog 19 #[.agg (tr ⟨s⟩), .int .i64 a, .int .i64 b] w fun e w' => e = .returned (.int .i64 (meetZ l a b)) ∧ Below w.heap.size w w' := by
  obtain ⟨W0, hW0⟩ : ∃ W0, W0 = (w.alloc (.cells (tr ⟨s⟩) 24)).alloc (.cells #[.int .i64 b] 3) := ⟨_, rfl⟩
  obtain ⟨hB, h0, h1, hz⟩ := heap2 w _ _ _ _ W0 hW0
  have HB := Lib.hid hB
  have HS := Lib.hid (slE_keep hB h)
  have hN : Calls Try.prog 31 #[.agg (tr ⟨s⟩), .int .i64 a, .func (.func 34) #[] #[.pointer (some ⟨w.heap.size, 0, none⟩), .pointer (some ⟨w.heap.size + 1, 0, none⟩)]] W0 fun e w' => e = .returned (.int .i64 (meetZ l a b)) ∧ Below W0.heap.size W0 w' := by
    by_cases hk : isT l a = true
    · obtain ⟨hm, hk0, hk1⟩ := isT_iff.1 hk
      obtain ⟨i', rfl⟩ : ∃ i' : Nat, a = i' := ⟨a.toNat, by omega⟩
      have hi : i' < l.length := by omega
      exact skipNearest_yes 34 _ enters_meet1 s l i' (fun k => aboveZ l (k : Int) b) _ W0 HS.out hm hi (near_meet_mono hm b) (near_meet hm b hi)
        (fun x W hx g => skipMeet1 w.heap.size (w.heap.size + 1) s (x : Int) b l W (blk_keep g h0) (cell_of_box (blk_keep g h1)).1 (slE_keep g HS.out))
    · have hk' : isT l a = false := by simpa using hk
      unfold meetZ
      rw [hk', if_neg (fun e => Bool.false_ne_true e.1)]
      exact skipNearest_no 34 _ s l a W0 HS.out hk'
  have HNN := Lib.hid hN
  have HW := Lib.hid hW0
  clear hW0 h hB h0 h1 hz hN
  go_enter Try.func19, Try.ntmps19
  go_wp2_with fail
  rw [← HW.out]
  refine HNN.out.mono ?_
  rintro e w1 ⟨rfl, g1⟩
  have G1 := Lib.hid (belowT HB.out g1)
  clear g1
  go_wp2_with fail
  go_ret
  exact ⟨rfl, G1.out⟩
theorem enters_skipMeet : ∀ args w, (callFunc 19 args).run Try.prog w = .ok (.enter 19 args) w := entersE Try.func19 (by kernel_rfl) (by kernel_rfl)
end Go.Proofs.Ytnmljjmaejmlfaa
