/-
  Package wire: putNumbers, putCheck, PutBlock, PutAtt, walked.
-/
import Derived.Test.YtjdpndclgmdahaaWireM
namespace Go.Proofs.Ytjdpndclgmdahaa
open Go.RowKit

def nums (ns : List UInt64) : List UInt8 := ns.flatMap num8
theorem nums_take (ns : List UInt64) (j : Nat) (h : j < ns.length) : nums (ns.take (j + 1)) = nums (ns.take j) ++ num8 ns[j] := by
  rw [List.take_succ_eq_append_getElem h, nums, List.flatMap_append]; simp [nums]
theorem nums_length (ns : List UInt64) : (nums ns).length = 8 * ns.length := by
  induction ns with
  | nil => rfl
  | cons a l ih => rw [nums, List.flatMap_cons, List.length_append, ← nums, ih, num8_length, List.length_cons]; omega
theorem num8_take (n : UInt64) (m : Nat) (h : m < 8) : (num8 n).take (m + 1) = (num8 n).take m ++ [UInt8.ofNat (n.toNat / 256 ^ (7 - m) % 256)] := by
  have hl : m < (num8 n).length := by rw [num8_length]; exact h
  rw [List.take_succ_eq_append_getElem hl]
  congr 2
  have := dgs_get 8 n.toNat m h
  rw [← num8] at this
  unfold bt at this
  rw [getD_in _ hl] at this
  have e : (num8 n)[m].toNat = n.toNat / 256 ^ (7 - m) % 256 := by
    have h2 : (((num8 n)[m]).toNat : Int) = ((n.toNat / 256 ^ (8 - 1 - m) % 256 : Nat) : Int) := this
    have h3 : (8 - 1 - m) = 7 - m := by omega
    rw [h3] at h2
    omega
  rw [← e, UInt8.ofNat_toNat]

set_option maxRecDepth 100000 in
set_option maxHeartbeats 1000000 in
theorem putNumbers_any (base : Nat) (v : Value) (k : List UInt8) (b cap : Nat) (ns : List UInt64) (w : World) (hown : Own w base v k) (hbase : base ≤ w.heap.size) (hlen : k.length + 8 * ns.length ≤ 1000000)
    (hb : b < w.heap.size) (hne : v.ownBlock ≠ some b) (hc : ∀ i (h : i < ns.length), w.cell? ⟨b, i, none⟩ = some (num ns[i])) :
    Calls Try.prog 18 #[v, .slice (some ⟨b, 0, none⟩) ns.length cap] w fun e w' => ∃ v', e = .returned v' ∧ Own w' base v' (k ++ nums ns) ∧ Grw w v w' v' := by
  have HO := Lib.hid hown
  have HC := Lib.hid hc
  have HN := Lib.hid hne
  clear hown hc hne
  go_enter Try.func18, Try.ntmps18
  go_wp2_with fail
  go_loopw [0, 10] (fun v1 i wr => ∃ j : Nat, j ≤ ns.length ∧ i = .int .i64 j ∧ Own wr base v1 (k ++ nums (ns.take j)) ∧ Grw w v wr v1) (fun _ i _ => ns.length - (intOf i).toNat)
  case atStart => exact ⟨0, Nat.zero_le _, rfl, by simpa [nums] using HO.out, Grw.refl _ _⟩
  case round =>
    obtain ⟨j, hj, rfl, ho, hg⟩ := hrel
    have HO1 := Lib.hid ho
    have HG1 := Lib.hid hg
    clear ho hg
    by_cases hlt : j < ns.length
    · have i0 : (0 : Int) ≤ (j : Int) := by omega
      have i1 : (j : Int) < (ns.length : Int) := by omega
      have hcell : wr.cell? ⟨b, j, none⟩ = some (num ns[j]) := (World.cell?_of_block (a := ⟨b, j, none⟩) (HG1.out.block hb HN.out)).trans (HC.out j hlt)
      obtain ⟨wo, rfl⟩ : ∃ wo : World, wo = wr := ⟨_, rfl⟩
      go_wp2_with fail
      go_loopw [0, 7] (fun v2 sh wr => ∃ m : Nat, m ≤ 8 ∧ sh = .int .i64 (56 - 8 * (m : Int)) ∧ Own wr base v2 (k ++ nums (ns.take j) ++ (num8 ns[j]).take m) ∧ Grw w v wr v2) (fun _ sh _ => (intOf sh + 8).toNat)
      case atStart => exact ⟨0, by omega, rfl, by simpa using HO1.out, HG1.out⟩
      case round =>
        obtain ⟨m, hm, rfl, ho2, hg2⟩ := hrel
        have HO2 := Lib.hid ho2
        have HG2 := Lib.hid hg2
        clear ho2 hg2
        by_cases hlt8 : m < 8
        · have s0 : (0 : Int) ≤ 56 - 8 * (m : Int) := by omega
          have s1 : 56 - 8 * (m : Int) < 64 := by omega
          have HX : Hid (((ns[j].toNat : Nat) : Int) / 2 ^ (56 - 8 * m) % 256 = ((UInt8.ofNat (ns[j].toNat / 256 ^ (7 - m) % 256)).toNat : Int)) := by
            show _ = _
            rw [UInt8.toNat_ofNat', Nat.mod_eq_of_lt (show ns[j].toNat / 256 ^ (7 - m) % 256 < 2 ^ 8 by omega)]
            rw [show (256 : Nat) ^ (7 - m) = 2 ^ (56 - 8 * m) by rw [show (256 : Nat) = 2 ^ 8 from rfl, ← Nat.pow_mul]; congr 1; omega]
            simp
          have HL : Hid ((k ++ nums (ns.take j) ++ (num8 ns[j]).take m).length + 1 ≤ 140737488355328) := by
            show _ ≤ _
            rw [List.length_append, List.length_append, nums_length, List.length_take, List.length_take]
            omega
          have HT := Lib.hid (num8_take ns[j] m hlt8)
          have HB := Lib.hid (Nat.le_trans hbase HG2.out.1.size)
          go_wp2_with (at_builtin; refine wpList_append_bytes _ rfl _ _ rfl base u0 _ rfl (own_alloc HO2.out _) _ [UInt8.ofNat (ns[j].toNat / 256 ^ (7 - m) % 256)] rfl (slB_lit _ _ _ _ _ rfl (b8_one1 _ _ HX.out)) HL.out (by have := HB.out; simp; omega) ?_; intro v3 w3 ho3 hg3)
          go_roundw
          case rel => exact ⟨m + 1, by omega, by go_num, by rw [HT.out, ← List.append_assoc]; exact ho3, HG2.out.trans hg3.alloc⟩
          case measure => simp [intOf]; omega
        · obtain rfl : m = 8 := by omega
          have HE : Hid (k ++ nums (ns.take j) ++ (num8 ns[j]).take 8 = k ++ nums (ns.take (j + 1))) := by
            show _ = _
            rw [nums_take ns j hlt, show (num8 ns[j]).take 8 = num8 ns[j] from List.take_of_length_le (by rw [num8_length]; omega), List.append_assoc]
          go_wp2_with fail
          go_roundw
          case rel => exact ⟨j + 1, by omega, by go_num, by rw [← HE.out]; exact HO2.out, HG2.out⟩
          case measure => simp [intOf]; omega
    · obtain rfl : j = ns.length := by omega
      go_wp2_with fail
      go_ret
      exact ⟨_, rfl, by have := HO1.out; rwa [List.take_length] at this, HG1.out⟩
theorem nums_lit (w : World) (ns : List UInt64) (c : Array Value) (t : TypeId) (b : Nat) (hb : b = w.heap.size) (hc : c = (ns.map num).toArray) : ∀ i (h : i < ns.length), (w.alloc (.cells c t)).cell? ⟨b, i, none⟩ = some (num ns[i]) := fun i h => by
  subst hb hc
  rw [cell_of_row _ _ i _ _ _ (heap_alloc_last w _), List.getElem?_toArray, List.getElem?_map, List.getElem?_eq_getElem h]
  rfl
theorem nums_one (n : UInt64) : nums [n] = num8 n := by simp [nums]
theorem nums_two (n m : UInt64) : nums [n, m] = num8 n ++ num8 m := by simp [nums]
theorem heap_alloc_keep {w : World} {o ob : Obj} {g : Nat} (h : w.heap[g]? = some ob) : (w.alloc o).heap[g]? = some ob := by
  rw [Below.heap_alloc w o g (Array.getElem?_eq_some_iff.1 h).1]; exact h
theorem Grw.heap {w w' : World} {v v' : Value} (h : Grw w v w' v') {g : Nat} {ob : Obj} (hg : w.heap[g]? = some ob) (hne : v.ownBlock ≠ some g) : w'.heap[g]? = some ob := by
  rw [h.block (Array.getElem?_eq_some_iff.1 hg).1 hne]; exact hg

set_option maxRecDepth 100000 in
set_option maxHeartbeats 1000000 in
theorem putCheck_any (base : Nat) (v : Value) (k : List UInt8) (x : Ck) (w : World) (hown : Own w base v k) (hbase : base ≤ w.heap.size) (hlen : k.length + 40 ≤ 1000000) :
    Calls Try.prog 19 #[v, .agg (cc x)] w fun e w' => ∃ v', e = .returned v' ∧ Own w' base v' (k ++ putC x) ∧ Grw w v w' v' := by
  have HO := Lib.hid hown
  clear hown
  have hc0 : (w.alloc (.cells (cc x) 28)).cell? ⟨w.heap.size, 0, none⟩ = some (num x.epoch) := ck_epoch (heap_alloc_last w _)
  go_enter Try.func19, Try.ntmps19
  go_wp2_with fail
  refine (putNumbers_any base v k (w.heap.size + 1) 1 [x.epoch] _ (own_alloc (own_alloc HO.out _) _) (by simp; omega) (by simp; omega) (by simp) (own_ne HO.out (by omega)) (nums_lit _ _ _ _ _ (by simp) rfl)).mono ?_
  rintro e w1 ⟨v1, rfl, ho1, hg1⟩
  have HO1 := Lib.hid ho1
  have HG1 := Lib.hid hg1
  clear ho1 hg1 hc0
  have HB1 : Hid (w1.heap[w.heap.size]? = some (.cells (cc x) 28 (0, 0))) := HG1.out.heap (heap_alloc_keep (heap_alloc_last w _)) (own_ne HO.out (Nat.le_refl _))
  have HS := Lib.hid HG1.out.1.size
  go_wp2_with (at_builtin; refine wpList_append_bytes _ rfl _ _ rfl base v1 _ rfl HO1.out _ x.root.toList rfl (ck_root HB1.out) (by rw [List.length_append, nums_length, rt_length]; simp; omega) (by have := HS.out; simp at this; omega) ?_; intro v2 w2 ho2 hg2)
  go_ret
  exact ⟨_, rfl, by unfold putC; rw [← List.append_assoc, ← nums_one]; exact ho2, (HG1.out.alloc.alloc).trans hg2⟩

set_option maxRecDepth 100000 in
set_option maxHeartbeats 1000000 in
theorem putBlock_own (x : Blk) (w : World) :
    Calls Try.prog 16 #[.agg (bc x)] w fun e w' => ∃ v, e = .returned v ∧ Own w' w.heap.size v (putB x) ∧ Below w.heap.size w w' := by
  have hmk : ∀ w : World, (Instr.makeSlice 31 (.int .i64 0) (.int .i64 81)).run Try.prog w = .ok (.slice (some ⟨w.heap.size, 0, none⟩) 0 81) (w.alloc (.cells (Array.replicate 81 (.int .u8 0)) 5)) := fun _ => by kernel_rfl
  obtain ⟨Z, hZ⟩ : ∃ Z : Array Value, Z = Array.replicate 81 (.int .u8 0) := ⟨_, rfl⟩
  rw [← hZ] at hmk
  have HZ : Hid (Z.size = 81) := by show _ = _; rw [hZ]; simp
  clear hZ
  have HO1 : Hid (Own (((w.alloc (.cells (bc x) 26)).alloc (.cells Z 5)).alloc (.cells #[.int .u8 1] 5)) (w.heap.size + 1) (.slice (some ⟨w.heap.size + 1, 0, none⟩) 0 81) []) := own_alloc (own_made _ 81 (by unfold maxLen; omega) Z HZ.out _ (by simp)) _
  have HS1 : Hid (SlB (((w.alloc (.cells (bc x) 26)).alloc (.cells Z 5)).alloc (.cells #[.int .u8 1] 5)) (.slice (some ⟨w.heap.size + 1 + 1, 0, none⟩) 1 1) [1]) := slB_lit _ [1] _ _ _ (by simp) rfl
  go_enter Try.func16, Try.ntmps16
  go_wp2_with (at_builtin; first
    | (refine wpList_append_bytes _ rfl (.tmp 5) (.tmp 6) rfl (w.heap.size + 1) _ [] rfl HO1.out _ [1] rfl HS1.out (by simp) (by simp) ?_; intro v2 w2 ho2 hg2
       have HO2 := Lib.hid ho2; clear ho2
       have HG2 := Lib.hid hg2; clear hg2
       have HB2 : Hid (w2.heap[w.heap.size]? = some (.cells (bc x) 26 (0, 0))) := HG2.out.heap (heap_alloc_keep (heap_alloc_keep (heap_alloc_last w _))) (by show some (w.heap.size + 1) ≠ some w.heap.size; intro e; injection e; omega)
       have HS2 : Hid (w.heap.size + 1 ≤ w2.heap.size) := by have := HG2.out.1.size; simp at this; show _ ≤ _; omega)
    | (refine wpList_append_bytes _ rfl (.tmp 8) (.tmp 10) rfl (w.heap.size + 1) _ _ rfl HO2.out _ x.root.toList rfl (blk_root HB2.out) (by rw [rt_length]; simp) HS2.out ?_; intro v3 w3 ho3 hg3
       have HO3 := Lib.hid ho3; clear ho3
       have HG3 := Lib.hid hg3; clear hg3
       have HB3 : Hid (w3.heap[w.heap.size]? = some (.cells (bc x) 26 (0, 0))) := HG3.out.heap HB2.out (fun e => by have := (World.ownsRow.lt HO2.out _ e).1; omega)
       have HS3 : Hid (w.heap.size + 1 ≤ w3.heap.size) := Nat.le_trans HS2.out HG3.out.1.size)
    | (refine wpList_append_bytes _ rfl (.tmp 12) (.tmp 14) rfl (w.heap.size + 1) _ _ rfl HO3.out _ x.parent.toList rfl (blk_parent HB3.out) (by rw [List.length_append, rt_length, rt_length]; simp) HS3.out ?_; intro v4 w4 ho4 hg4
       have HO4 := Lib.hid ho4; clear ho4
       have HG4 := Lib.hid hg4; clear hg4
       have HB4 : Hid (w4.heap[w.heap.size]? = some (.cells (bc x) 26 (0, 0))) := HG4.out.heap HB3.out (fun e => by have := (World.ownsRow.lt HO3.out _ e).1; omega)
       have HS4 : Hid (w.heap.size + 1 ≤ w4.heap.size) := Nat.le_trans HS3.out HG4.out.1.size
       have hc4 := blk_slot HB4.out
       have hd4 := blk_just HB4.out))
  refine (putNumbers_any (w.heap.size + 1) v4 _ w4.heap.size 2 [x.slot, x.just] _ (own_alloc HO4.out _) (by have := HS4.out; simp; omega) (by rw [List.length_append, List.length_append, rt_length, rt_length]; simp) (by simp) (own_ne HO4.out (Nat.le_refl _)) (nums_lit _ _ _ _ _ rfl rfl)).mono ?_
  rintro e w5 ⟨v5, rfl, ho5, hg5⟩
  have HO5 := Lib.hid ho5
  have HG5 := Lib.hid hg5
  clear ho5 hg5 hc4 hd4
  go_wp2_with fail
  go_ret
  refine ⟨_, rfl, ?_, ?_⟩
  · have h := own_base HO5.out (Nat.le_succ _)
    rw [nums_two] at h
    have e : [] ++ [1] ++ x.root.toList ++ x.parent.toList ++ (num8 x.slot ++ num8 x.just) = putB x := by simp [putB]
    rwa [e] at h
  · have b1 := ((((Below.refl w.heap.size w).alloc (Nat.le_refl _) (.cells (bc x) 26)).alloc (by simp) (.cells Z 5)).alloc (by simp; omega) (.cells #[.int .u8 1] 5))
    have b2 := b1.trans ((HG2.out.own HO1.out (by simp)).mono (Nat.le_succ _))
    have b3 := b2.trans ((HG3.out.own HO2.out HS2.out).mono (Nat.le_succ _))
    have b4 := b3.trans ((HG4.out.own HO3.out HS3.out).mono (Nat.le_succ _))
    exact b4.trans ((HG5.out.alloc.own HO4.out HS4.out).mono (Nat.le_succ _))
theorem putBlock_any (x : Blk) (w : World) :
    Calls Try.prog 16 #[.agg (bc x)] w fun e w' => ∃ v, e = .returned v ∧ SlB w' v (putB x) ∧ Below w.heap.size w w' :=
  (putBlock_own x w).mono fun _ _ ⟨v, h1, h2, h3⟩ => ⟨v, h1, own_slB h2, h3⟩

set_option maxRecDepth 100000 in
set_option maxHeartbeats 1000000 in
theorem putAtt_no (x : At) (w : World) (h : okV x.val = false) :
    Calls Try.prog 10 #[.agg (ac x)] w fun e w' => e = .returned (.tuple #[.slice none 0 0, .bool false]) ∧ Below w.heap.size w w' := by
  have hc0 : (w.alloc (.cells (ac x) 30)).cell? ⟨w.heap.size, 0, none⟩ = some (.int .i64 x.val) := att_val (heap_alloc_last w _)
  unfold okV at h
  rw [Bool.and_eq_false_iff, decide_eq_false_iff_not, decide_eq_false_iff_not] at h
  by_cases h1 : x.val < 0
  · have d1 : decide (x.val < 0) = true := by simpa using h1
    go_enter Try.func10, Try.ntmps10
    go_wp2_with fail
    go_ret2
    exact ⟨rfl, (Below.refl _ _).alloc (Nat.le_refl _) _⟩
  · have d1 : decide (x.val < 0) = false := by simpa using h1
    have d2 : decide (65535 < x.val) = true := by simp; omega
    go_enter Try.func10, Try.ntmps10
    go_wp2_with fail
    go_ret2
    exact ⟨rfl, (Below.refl _ _).alloc (Nat.le_refl _) _⟩
end Go.Proofs.Ytjdpndclgmdahaa
