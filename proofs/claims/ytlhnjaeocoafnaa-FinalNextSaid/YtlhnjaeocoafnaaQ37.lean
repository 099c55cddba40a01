/-
  Package stake: Bit, walked.
  Bits of numbers of 64 bits, one at a time, plainly: what &, &^ and | of one bit come to.
  Package stake: each, and the function that it hands on: whatever loop ranges over it.
-/
import Derived.Test.YtlhnjaeocoafnaaQ36
import Derived.Laws.ShiftsVarLaws
import Derived.Test.YtlhnjaeocoafnaaQ10
import Derived.Laws.Bits64b
import Derived.Laws.BitsAllLaws
import Derived.Test.YtlhnjaeocoafnaaQ34
import Derived.Shelf.RegionOpen
namespace Go.Proofs.Ytlhnjaeocoafnaa
open Go.RowKit
set_option maxRecDepth 100000

set_option maxRecDepth 100000 in
set_option maxHeartbeats 1000000 in
theorem stakeBit : StBitC := fun v w => by
  by_cases h0 : v < 0
  · have t0 : decide (v < 0) = true := decide_eq_true h0
    rw [show bitN v = 0 from if_neg (by omega)]
    clear h0
    go_enter Try.func60, Try.ntmps60
    go_wp2_with fail
    go_ret
    exact ⟨rfl, Below.refl _ _⟩
  · have t0 : decide (v < 0) = false := decide_eq_false h0
    by_cases h1 : 64 ≤ v
    · have t1 : decide (64 ≤ v) = true := decide_eq_true h1
      rw [show bitN v = 0 from if_neg (by omega)]
      clear h0 h1
      go_enter Try.func60, Try.ntmps60
      go_wp2_with fail
      go_ret
      exact ⟨rfl, Below.refl _ _⟩
    · have t1 : decide (64 ≤ v) = false := decide_eq_false h1
      obtain ⟨n, rfl⟩ : ∃ n : Nat, v = n := ⟨v.toNat, by omega⟩
      have hn : n < 64 := by omega
      rw [bitN_nat hn]
      have HX : Hid (IntKind.u64.wrap (1 * 2 ^ min ((n : Int)).toNat 64) = ((2 ^ n : Nat) : Int)) := by
        show _ = _
        have e : min ((n : Int)).toNat 64 = n := by omega
        have : 2 ^ n ≤ 2 ^ 63 := Nat.pow_le_pow_right (by omega) (by omega)
        rw [e, Int.one_mul, show ((2 : Int) ^ n) = ((2 ^ n : Nat) : Int) by simp, IntKind.wrap_u64]
        generalize 2 ^ n = x at *
        omega
      have h2 : (0 : Int) ≤ (n : Int) := by omega
      clear h0 h1 hn
      go_enter Try.func60, Try.ntmps60
      go_wp2_with fail
      go_ret
      exact ⟨by have := HX.out; simpa using this, Below.refl _ _⟩
theorem enters_stakeBit : ∀ args w, (callFunc 60 args).run Try.prog w = .ok (.enter 60 args) w := entersE Try.func60 (by kernel_rfl) (by kernel_rfl)
end Go.Proofs.Ytlhnjaeocoafnaa
namespace Go.Proofs.Ytlhnjaeocoafnaa
open Go.RowKit
set_option maxRecDepth 100000

theorem and_bit (mask : UInt64) {j : Nat} (h : j < 64) : bits .and .u64 (mask.toNat : Int) (bitN (j : Int) : Int) = ((mask.toNat &&& 2 ^ j : Nat) : Int) := by
  have : 2 ^ j ≤ 2 ^ 63 := Nat.pow_le_pow_right (by omega) (by omega)
  rw [bitN_nat h, bits_and_u64_nat _ _ mask.toNat_lt (by omega)]
theorem and_pow (x j : Nat) : x &&& 2 ^ j = if x.testBit j = true then 2 ^ j else 0 := by
  refine Nat.eq_of_testBit_eq fun i => ?_
  rw [Nat.testBit_and, Nat.testBit_two_pow]
  by_cases e : j = i
  · subst e
    cases h : x.testBit j <;> simp
  · rw [decide_eq_false e, Bool.and_false]
    split
    · rw [Nat.testBit_two_pow, decide_eq_false e]
    · simp
theorem and_has (mask : UInt64) (j : Nat) : (((mask.toNat &&& 2 ^ j : Nat) : Int) != 0) = hasB mask j := by
  unfold hasB
  rw [and_pow]
  have hp := Nat.two_pow_pos j
  by_cases h : mask.toNat.testBit j = true
  · rw [if_pos h, h, bne_iff_ne]
    generalize 2 ^ j = x at *
    omega
  · rw [if_neg h, eq_false_of_ne_true h]
    rfl
/-- The number without its j lowest bits. -/
def clrU (x j : Nat) : Nat := x >>> j <<< j
theorem clr_bit (x j i : Nat) : (clrU x j).testBit i = (decide (j ≤ i) && x.testBit i) := by
  unfold clrU
  rw [Nat.testBit_shiftLeft, Nat.testBit_shiftRight]
  by_cases h : j ≤ i
  · simp only [ge_iff_le, decide_eq_true h]; rw [show j + (i - j) = i by omega]
  · simp only [ge_iff_le, decide_eq_false h, Bool.false_and]
theorem clr_zero (x : Nat) : clrU x 0 = x := Nat.eq_of_testBit_eq fun i => by rw [clr_bit, decide_eq_true (Nat.zero_le _), Bool.true_and]
theorem clr_le (x j : Nat) : clrU x j ≤ x := by
  unfold clrU
  rw [Nat.shiftRight_eq_div_pow, Nat.shiftLeft_eq]
  exact Nat.div_mul_le_self _ _
theorem clr_next {x j : Nat} (hx : x < 18446744073709551616) (h : j < 64) : bits .andNot .u64 (clrU x j : Int) (bitN (j : Int) : Int) = (clrU x (j + 1) : Int) := by
  have h2 : 2 ^ j ≤ 2 ^ 63 := Nat.pow_le_pow_right (by omega) (by omega)
  have h3 := clr_le x j
  rw [bitN_nat h, u64_andNot_nat _ _ (by omega) (by omega)]
  congr 1
  refine Nat.eq_of_testBit_eq fun i => ?_
  rw [Nat.testBit_and, clr_bit, clr_bit, show 18446744073709551615 - 2 ^ j = 2 ^ 64 - (2 ^ j + 1) by omega, Nat.testBit_two_pow_sub_succ (by omega), Nat.testBit_two_pow]
  by_cases h4 : i < 64
  · rw [decide_eq_true h4, Bool.true_and]
    by_cases e : j = i
    · subst e; rw [decide_eq_false (show ¬ j + 1 ≤ j by omega)]; simp
    · rw [decide_eq_false e]
      by_cases e2 : j ≤ i
      · rw [decide_eq_true e2, decide_eq_true (show j + 1 ≤ i by omega)]; simp
      · rw [decide_eq_false e2, decide_eq_false (show ¬ j + 1 ≤ i by omega)]; simp
  · have : x.testBit i = false := Nat.testBit_lt_two_pow (Nat.lt_of_lt_of_le hx (show 18446744073709551616 ≤ 2 ^ i by rw [show 18446744073709551616 = 2 ^ 64 from rfl]; exact Nat.pow_le_pow_right (by omega) (by omega)))
    rw [this]; simp
theorem clr_none {x n : Nat} : clrU x n = 0 ↔ ∀ i, n ≤ i → x.testBit i = false := by
  constructor
  · intro e i hi
    have := clr_bit x n i
    rw [e, Nat.zero_testBit, decide_eq_true hi, Bool.true_and] at this
    exact this.symm
  · intro h
    refine Nat.eq_of_testBit_eq fun i => ?_
    rw [clr_bit, Nat.zero_testBit]
    by_cases hi : n ≤ i
    · rw [h i hi, Bool.and_false]
    · rw [decide_eq_false hi, Bool.false_and]
end Go.Proofs.Ytlhnjaeocoafnaa
namespace Go.Proofs.Ytlhnjaeocoafnaa
open Go.RowKit Go.Shelf
set_option maxRecDepth 100000

attribute [local go_sem] Oper.semAt_some
@[local go_sem ↓] theorem semAt_run11 {P : Program} (l : Option Nat) (ρ : Operand → Value) (o : Oper) (w : World) (h : ∀ c, o.op ≠ .defer c) : (Oper.semAt l ρ o).run P w = (execOp ρ o).run P w := by rw [Oper.semAt_eq l ρ o h]

set_option maxRecDepth 100000 in
set_option maxHeartbeats 1000000 in
/-- each: the mask is boxed; what is handed on captures it. -/
theorem stakeEach (m : Int) (w : World) :
    Calls Try.prog 77 #[.int .u64 m] w fun e w' => e = .returned (.func (.func 91) #[] #[.pointer (some ⟨w.heap.size, 0, none⟩)]) ∧ w' = w.alloc (.cells #[.int .u64 m] 28) := by
  go_enter Try.func77, Try.ntmps77
  go_wp2_with fail
  go_ret
  exact ⟨rfl, rfl⟩

/-- The first n's that have a bit. -/
def upT (mask : UInt64) (n : Nat) : List Nat := (List.range n).filter (hasB mask)
theorem upT_yes {mask : UInt64} {n : Nat} (h : hasB mask n = true) : upT mask (n + 1) = upT mask n ++ [n] := by unfold upT; rw [List.range_succ, List.filter_append]; simp [h]
theorem upT_no {mask : UInt64} {n : Nat} (h : hasB mask n = false) : upT mask (n + 1) = upT mask n := by unfold upT; rw [List.range_succ, List.filter_append]; simp [h]
theorem upT_pre (mask : UInt64) (n : Nat) : ∀ d, upT mask n <+: upT mask (n + d)
  | 0 => List.prefix_refl _
  | d + 1 => by
    have ih := upT_pre mask n d
    cases h : hasB mask (n + d)
    · rw [show n + (d + 1) = n + d + 1 from rfl, upT_no h]; exact ih
    · rw [show n + (d + 1) = n + d + 1 from rfl, upT_yes h]; exact ih.trans (List.prefix_append _ _)
theorem upT_who {mask : UInt64} {n : Nat} (h : n ≤ 64) : upT mask n <+: whoT mask := by
  have := upT_pre mask n (64 - n)
  rwa [show n + (64 - n) = 64 by omega] at this
set_option maxRecDepth 100000 in
set_option maxHeartbeats 8000000 in
theorem each_stops (d : Nat) (hd : 1 ≤ d) (mask : UInt64) (s0 D bt : Nat) (w : World) (hs0 : s0 ≤ w.heap.size) (hDb : D < bt) (t0 : w.heap[bt]? = some (.cells #[.int .u64 (mask.toNat : Int)] 28 (0, 0))) :
    SeqStopsK Fence.wide d Try.prog 91 #[.pointer (some ⟨bt, 0, none⟩)] (fun x : { x : Nat // x ∈ whoT mask } => #[Value.int .i64 (x.1 : Int)]) (But s0 w.heap.size D) (fun ys => ys.map Subtype.val = whoT mask) (fun pre => pre.map Subtype.val <+: whoT mask) (whoT mask).length w := by
  intro lo J Jx W hW hAJ _ hY hJ0
  have hsz : ∀ {k : Nat} {o : Obj}, w.heap[k]? = some o → k < w.heap.size := fun e => (Array.getElem?_eq_some_iff.1 e).1
  have HT : Hid (∀ W', But s0 w.heap.size D w W' → W'.heap[bt]? = some (.cells #[.int .u64 (mask.toNat : Int)] 28 (0, 0))) := fun W' g => g.blk (hsz t0) (by omega) t0
  have HG0 : Hid (But s0 w.heap.size D w W) := But.of_below hW hs0
  have HGZ : Hid (∀ {W1 W' : World}, w.heap.size ≤ W1.heap.size → But s0 w.heap.size D w W1 → Below W1.heap.size W1 W' → But s0 w.heap.size D w W') := fun hs g k => g.then k hs0 hs
  have HBT : Hid (∀ {A B C : World}, But s0 w.heap.size D A B → But s0 w.heap.size D B C → But s0 w.heap.size D A C) := fun h k => h.trans k
  have HWs : Hid (w.heap.size ≤ W.heap.size) := hW.size
  have HBS : Hid (∀ W', But s0 w.heap.size D w W' → w.heap.size ≤ W'.heap.size) := fun W' g => by
    have := (Array.getElem?_eq_some_iff.1 t0).1
    exact Nat.le_of_not_lt fun hlt => by
      by_cases e : w.heap.size - 1 = D
      · omega
      · have k := g.block (w.heap.size - 1) (by omega) e
        rw [Array.getElem?_eq_none (by omega), Array.getElem?_eq_getElem (by omega)] at k
        cases k
  have HAJ : Hid (∀ pre W1 W', J pre W1 → Below W1.heap.size W1 W' → J pre W') := fun pre W1 W' hj g => hAJ pre W1 W' none hj (grown_of_below g) (fun r e => by cases e)
  have HY := Lib.hid hY
  have HJ0 := Lib.hid hJ0
  have HB := Lib.hid (fun (v : Int) W => stakeBit v W)
  have HM : Hid (∀ j : Nat, j < 64 → bits .and .u64 (mask.toNat : Int) (bitN (j : Int) : Int) = ((mask.toNat &&& 2 ^ j : Nat) : Int)) := fun j h => and_bit mask h
  have HH : Hid (∀ j : Nat, (((mask.toNat &&& 2 ^ j : Nat) : Int) != 0) = hasB mask j) := fun j => and_has mask j
  clear hsz hY hJ0 hW hAJ t0 hDb hs0
  obtain ⟨m, hm⟩ : ∃ m, m = (mask.toNat : Int) := ⟨_, rfl⟩
  rw [← hm] at HT HM
  clear hm
  generalize But s0 w.heap.size D = BU at *
  have hmix : Try.prog.follows .mixedOrders = true := by kernel_rfl
  refine callsIn_of_wp Try.func91 rfl trivial ?_ rfl
  simp only [Try.ntmps91, List.size_toArray, List.length_cons, List.length_nil, Nat.reduceAdd, Nat.reduceSub, Array.replicate_succ, Array.replicate_zero, List.push_toArray, List.append_toArray, List.nil_append, List.cons_append]
  gi_wp2
  gi_loopw [4] (fun v wr => ∃ (pre : List { x : Nat // x ∈ whoT mask }) (j : Nat), v = .int .i64 (j : Int) ∧ j ≤ 64 ∧ pre.map Subtype.val = upT mask j ∧ BU w wr ∧ J pre wr) (fun v _ => 64 - (intOf v).toNat)
  case atStart => exact ⟨[], 0, rfl, Nat.zero_le _, rfl, HG0.out, HJ0.out⟩
  case round =>
    obtain ⟨pre, j, rfl, hj, hpre, hg, hjj⟩ := hrel
    have HG := Lib.hid hg
    have HJ := Lib.hid hjj
    have HE := Lib.hid hpre
    clear hg hjj hpre
    by_cases hlt : j < 64
    · have d0 : decide ((j : Int) < 64) = true := decide_eq_true (by omega)
      have d0' : decide (j < 64) = true := decide_eq_true hlt
      have u1 : (j : Int) + 1 < 10000 := by omega
      have HLT := Lib.hid hlt
      obtain ⟨r, hr⟩ : ∃ r, r = hasB mask j := ⟨_, rfl⟩
      obtain ⟨x, hx⟩ : ∃ x, x = ((mask.toNat &&& 2 ^ j : Nat) : Int) := ⟨_, rfl⟩
      obtain ⟨b, hb⟩ : ∃ b, b = (bitN (j : Int) : Int) := ⟨_, rfl⟩
      have hA := HM.out j hlt
      have hA2 := HH.out j
      have HBj := Lib.hid (fun W => HB.out (j : Int) W)
      rw [← hb, ← hx] at hA
      rw [← hx, ← hr] at hA2
      rw [← hb] at HBj
      have HR := Lib.hid hr
      have z0 := (cell_of_box (HT.out _ HG.out)).1
      clear hlt hx hb hr
      cases r
      · gi_wp2
        refine wpIn_region_any (by kernel_rfl) ?_
        try (change wpAnyIn _ _ _ _ _ _ _ _ _ (World.drew _))
        refine wpAnyIn_take (i := 1) (v := ?_) rfl rfl (by kernel_rfl) (by kernel_rfl) (by kernel_rfl) (fun _ _ _ h => h) ⟨Or.inl ⟨by rfl, ?_⟩, fun _ => rfl⟩ ?_
        case refine_2 => intro w; go_simp; rfl
        refine wpAnyIn_ready (rs := [0, 2]) (by kernel_rfl) (by simp) ?_
        refine AllReadyIn.cons rfl (fun K hK => ?_) (AllReadyIn.cons rfl (fun K hK => ?_) AllReadyIn.nil)
        · go_simp
          refine hK _ _ ?_
          clear hK K
          refine wpAnyIn_ready (rs := [2]) (by kernel_rfl) (by simp) (AllReadyIn.cons rfl (fun K hK => ?_) AllReadyIn.nil)
          go_simp
          refine ⟨trivial, (callsIn_wide.2 (HBj.out _)).mono ?_⟩
          rintro e W1 ⟨rfl, g1⟩
          have HG1 := Lib.hid (HGZ.out (HBS.out _ HG.out) HG.out (belowT (belowD (Below.refl _ _) 1) g1))
          have HJ1 := Lib.hid (HAJ.out _ _ _ HJ.out (belowT (belowD (Below.refl _ _) 1) g1))
          clear g1
          refine hK _ _ ?_
          clear hK K z0
          refine wpAnyIn_take (i := 3) (v := ?_) rfl rfl (by kernel_rfl) (by kernel_rfl) (by kernel_rfl) (fun _ _ _ h => h) ⟨Or.inl ⟨by rfl, ?_⟩, fun _ => rfl⟩ ?_
          case refine_2 => intro w; go_simp; rfl
          refine wpAnyIn_take (i := 4) (v := ?_) rfl rfl (by kernel_rfl) (by kernel_rfl) (by kernel_rfl) (fun _ _ _ h => h) ⟨Or.inl ⟨by rfl, ?_⟩, fun _ => rfl⟩ ?_
          case refine_2 => intro w; go_simp; rfl
          refine wpAnyIn_take (i := 5) (v := ?_) rfl rfl (by kernel_rfl) (by kernel_rfl) (by kernel_rfl) (fun _ _ _ h => h) ⟨Or.inl ⟨by rfl, ?_⟩, fun _ => rfl⟩ ?_
          case refine_2 => intro w; go_simp; rfl
          refine wpAnyIn_take (i := 6) (v := undef) rfl rfl (by kernel_rfl) (by kernel_rfl) (by kernel_rfl) (fun _ _ _ h => h) ⟨Or.inr ⟨by rfl, rfl⟩, fun _ => rfl⟩ ?_
          refine wpAnyIn_take (i := 7) (v := undef) rfl rfl (by kernel_rfl) (by kernel_rfl) (by kernel_rfl) (fun _ _ _ h => h) ⟨Or.inr ⟨by rfl, rfl⟩, fun _ => rfl⟩ ?_
          refine wpAnyIn_ready (rs := [8]) (by kernel_rfl) (by simp) (AllReadyIn.cons rfl (fun K hK => ?_) AllReadyIn.nil)
          go_simp
          refine ⟨fun _ _ => trivial, ?_⟩
          refine hK _ _ ?_
          clear hK K
          refine wpAnyIn_take (i := 9) (v := undef) rfl rfl (by kernel_rfl) (by kernel_rfl) (by kernel_rfl) (fun _ _ _ h => h) ⟨Or.inr ⟨by rfl, rfl⟩, fun _ => rfl⟩ ?_
          refine wpAnyIn_take (i := 10) (v := ?_) rfl rfl (by kernel_rfl) (by kernel_rfl) (by kernel_rfl) (fun _ _ _ h => h) ⟨Or.inl ⟨by rfl, ?_⟩, fun _ => rfl⟩ ?_
          case refine_2 => intro w; go_simp; rfl
          refine wpAnyIn_done (by kernel_rfl) ?_ _
          gi_wp2
          go_roundw
          case rel => exact ⟨pre, j + 1, by go_num, HLT.out, by rw [upT_no HR.out.symm]; exact HE.out, HG1.out, HJ1.out⟩
          case measure => simp [intOf]; have := HLT.out; omega
        · go_simp
          refine ⟨trivial, (callsIn_wide.2 (HBj.out _)).mono ?_⟩
          rintro e W1 ⟨rfl, g1⟩
          have HG1 := Lib.hid (HGZ.out (HBS.out _ HG.out) HG.out (belowT (belowD (Below.refl _ _) 1) g1))
          have HJ1 := Lib.hid (HAJ.out _ _ _ HJ.out (belowT (belowD (Below.refl _ _) 1) g1))
          have z1 := (cell_of_box (HT.out _ HG1.out)).1
          clear g1
          refine hK _ _ ?_
          clear hK K z0
          refine wpAnyIn_ready (rs := [0]) (by kernel_rfl) (by simp) (AllReadyIn.cons rfl (fun K hK => ?_) AllReadyIn.nil)
          go_simp
          refine hK _ _ ?_
          clear hK K z1
          refine wpAnyIn_take (i := 3) (v := ?_) rfl rfl (by kernel_rfl) (by kernel_rfl) (by kernel_rfl) (fun _ _ _ h => h) ⟨Or.inl ⟨by rfl, ?_⟩, fun _ => rfl⟩ ?_
          case refine_2 => intro w; go_simp; rfl
          refine wpAnyIn_take (i := 4) (v := ?_) rfl rfl (by kernel_rfl) (by kernel_rfl) (by kernel_rfl) (fun _ _ _ h => h) ⟨Or.inl ⟨by rfl, ?_⟩, fun _ => rfl⟩ ?_
          case refine_2 => intro w; go_simp; rfl
          refine wpAnyIn_take (i := 5) (v := ?_) rfl rfl (by kernel_rfl) (by kernel_rfl) (by kernel_rfl) (fun _ _ _ h => h) ⟨Or.inl ⟨by rfl, ?_⟩, fun _ => rfl⟩ ?_
          case refine_2 => intro w; go_simp; rfl
          refine wpAnyIn_take (i := 6) (v := undef) rfl rfl (by kernel_rfl) (by kernel_rfl) (by kernel_rfl) (fun _ _ _ h => h) ⟨Or.inr ⟨by rfl, rfl⟩, fun _ => rfl⟩ ?_
          refine wpAnyIn_take (i := 7) (v := undef) rfl rfl (by kernel_rfl) (by kernel_rfl) (by kernel_rfl) (fun _ _ _ h => h) ⟨Or.inr ⟨by rfl, rfl⟩, fun _ => rfl⟩ ?_
          refine wpAnyIn_ready (rs := [8]) (by kernel_rfl) (by simp) (AllReadyIn.cons rfl (fun K hK => ?_) AllReadyIn.nil)
          go_simp
          refine ⟨fun _ _ => trivial, ?_⟩
          refine hK _ _ ?_
          clear hK K
          refine wpAnyIn_take (i := 9) (v := undef) rfl rfl (by kernel_rfl) (by kernel_rfl) (by kernel_rfl) (fun _ _ _ h => h) ⟨Or.inr ⟨by rfl, rfl⟩, fun _ => rfl⟩ ?_
          refine wpAnyIn_take (i := 10) (v := ?_) rfl rfl (by kernel_rfl) (by kernel_rfl) (by kernel_rfl) (fun _ _ _ h => h) ⟨Or.inl ⟨by rfl, ?_⟩, fun _ => rfl⟩ ?_
          case refine_2 => intro w; go_simp; rfl
          refine wpAnyIn_done (by kernel_rfl) ?_ _
          gi_wp2
          go_roundw
          case rel => exact ⟨pre, j + 1, by go_num, HLT.out, by rw [upT_no HR.out.symm]; exact HE.out, HG1.out, HJ1.out⟩
          case measure => simp [intOf]; have := HLT.out; omega
      · have HIN : Hid (j ∈ whoT mask) := mem_who.2 ⟨HLT.out, HR.out.symm⟩
        have HUP : Hid (upT mask (j + 1) = upT mask j ++ [j]) := upT_yes HR.out.symm
        have HLN : Hid (pre.length < (whoT mask).length) := by
          show pre.length < _
          have h1 := (upT_who (mask := mask) (n := j + 1) HLT.out).length_le
          have h2 := congrArg List.length HE.out
          rw [List.length_map] at h2
          rw [HUP.out, List.length_append, ← h2] at h1
          exact h1
        gi_wp2
        refine wpIn_region_any (by kernel_rfl) ?_
        try (change wpAnyIn _ _ _ _ _ _ _ _ _ (World.drew _))
        refine wpAnyIn_take (i := 1) (v := ?_) rfl rfl (by kernel_rfl) (by kernel_rfl) (by kernel_rfl) (fun _ _ _ h => h) ⟨Or.inl ⟨by rfl, ?_⟩, fun _ => rfl⟩ ?_
        case refine_2 => intro w; go_simp; rfl
        refine wpAnyIn_ready (rs := [0, 2]) (by kernel_rfl) (by simp) ?_
        refine AllReadyIn.cons rfl (fun K hK => ?_) (AllReadyIn.cons rfl (fun K hK => ?_) AllReadyIn.nil)
        · go_simp
          refine hK _ _ ?_
          clear hK K
          refine wpAnyIn_ready (rs := [2]) (by kernel_rfl) (by simp) (AllReadyIn.cons rfl (fun K hK => ?_) AllReadyIn.nil)
          go_simp
          refine ⟨trivial, (callsIn_wide.2 (HBj.out _)).mono ?_⟩
          rintro e W1 ⟨rfl, g1⟩
          have HG1 := Lib.hid (HGZ.out (HBS.out _ HG.out) HG.out (belowT (belowD (Below.refl _ _) 1) g1))
          have HJ1 := Lib.hid (HAJ.out _ _ _ HJ.out (belowT (belowD (Below.refl _ _) 1) g1))
          clear g1
          obtain ⟨fn, tmps, assign, body, hy, hR⟩ := HY.out pre ⟨j, HIN.out⟩ W1 HJ1.out HLN.out
          have HRR := Lib.hid hR
          clear hR
          refine hK _ _ ?_
          clear hK K z0
          refine wpAnyIn_take (i := 3) (v := ?_) rfl rfl (by kernel_rfl) (by kernel_rfl) (by kernel_rfl) (fun _ _ _ h => h) ⟨Or.inl ⟨by rfl, ?_⟩, fun _ => rfl⟩ ?_
          case refine_2 => intro w; go_simp; rfl
          refine wpAnyIn_take (i := 4) (v := ?_) rfl rfl (by kernel_rfl) (by kernel_rfl) (by kernel_rfl) (fun _ _ _ h => h) ⟨Or.inl ⟨by rfl, ?_⟩, fun _ => rfl⟩ ?_
          case refine_2 => intro w; go_simp; rfl
          refine wpAnyIn_take (i := 5) (v := ?_) rfl rfl (by kernel_rfl) (by kernel_rfl) (by kernel_rfl) (fun _ _ _ h => h) ⟨Or.inl ⟨by rfl, ?_⟩, fun _ => rfl⟩ ?_
          case refine_2 => intro w; go_simp; rfl
          refine wpAnyIn_take (i := 6) (v := ?_) rfl rfl (by kernel_rfl) (by kernel_rfl) (by kernel_rfl) (fun _ _ _ h => h) ⟨Or.inl ⟨by rfl, ?_⟩, fun _ => rfl⟩ ?_
          case refine_2 => intro w; go_simp; rfl
          refine wpAnyIn_take (i := 7) (v := ?_) rfl rfl (by kernel_rfl) (by kernel_rfl) (by kernel_rfl) (fun _ _ _ h => h) ⟨Or.inl ⟨by rfl, ?_⟩, fun _ => rfl⟩ ?_
          case refine_2 => intro w; go_simp; rfl
          refine wpAnyIn_ready (rs := [8]) (by kernel_rfl) (by simp) (AllReadyIn.cons rfl (fun K hK => ?_) AllReadyIn.nil)
          go_simp
          refine HRR.out.mono ?_
          rintro e W3 (⟨rfl, hJ3, hk3⟩ | ⟨rfl, hJx3⟩)
          · have HG3 := Lib.hid (HBT.out HG1.out hk3)
            have HJ3 := Lib.hid hJ3
            clear hJ3 hk3
            refine hK _ _ ?_
            clear hK K
            refine wpAnyIn_take (i := 9) (v := ?_) rfl rfl (by kernel_rfl) (by kernel_rfl) (by kernel_rfl) (fun _ _ _ h => h) ⟨Or.inl ⟨by rfl, ?_⟩, fun _ => rfl⟩ ?_
            case refine_2 => intro w; go_simp; rfl
            refine wpAnyIn_take (i := 10) (v := ?_) rfl rfl (by kernel_rfl) (by kernel_rfl) (by kernel_rfl) (fun _ _ _ h => h) ⟨Or.inl ⟨by rfl, ?_⟩, fun _ => rfl⟩ ?_
            case refine_2 => intro w; go_simp; rfl
            refine wpAnyIn_done (by kernel_rfl) ?_ _
            gi_wp2
            go_roundw
            case rel => exact ⟨pre ++ [⟨j, HIN.out⟩], j + 1, by go_num, HLT.out, by rw [HUP.out, List.map_append, HE.out]; rfl, HG3.out, HJ3.out⟩
            case measure => simp [intOf]; have := HLT.out; omega
          · have HJ3 := Lib.hid hJx3
            clear hJx3
            refine hK _ _ ?_
            clear hK K
            refine wpAnyIn_take (i := 9) (v := ?_) rfl rfl (by kernel_rfl) (by kernel_rfl) (by kernel_rfl) (fun _ _ _ h => h) ⟨Or.inl ⟨by rfl, ?_⟩, fun _ => rfl⟩ ?_
            case refine_2 => intro w; go_simp; rfl
            refine wpAnyIn_take (i := 10) (v := ?_) rfl rfl (by kernel_rfl) (by kernel_rfl) (by kernel_rfl) (fun _ _ _ h => h) ⟨Or.inl ⟨by rfl, ?_⟩, fun _ => rfl⟩ ?_
            case refine_2 => intro w; go_simp; rfl
            refine wpAnyIn_done (by kernel_rfl) ?_ _
            gi_wp2
            refine bodyPost_ret (results_none rfl _ _ _) rfl ?_
            exact ⟨⟨_, rfl⟩, .inr ⟨pre ++ [⟨j, HIN.out⟩], by show List.map Subtype.val _ <+: _; rw [List.map_append, HE.out]; exact HUP.out ▸ upT_who (mask := mask) (n := j + 1) HLT.out, HJ3.out⟩⟩
        · go_simp
          refine ⟨trivial, (callsIn_wide.2 (HBj.out _)).mono ?_⟩
          rintro e W1 ⟨rfl, g1⟩
          have HG1 := Lib.hid (HGZ.out (HBS.out _ HG.out) HG.out (belowT (belowD (Below.refl _ _) 1) g1))
          have HJ1 := Lib.hid (HAJ.out _ _ _ HJ.out (belowT (belowD (Below.refl _ _) 1) g1))
          have z1 := (cell_of_box (HT.out _ HG1.out)).1
          clear g1
          obtain ⟨fn, tmps, assign, body, hy, hR⟩ := HY.out pre ⟨j, HIN.out⟩ W1 HJ1.out HLN.out
          have HRR := Lib.hid hR
          clear hR
          refine hK _ _ ?_
          clear hK K z0
          refine wpAnyIn_ready (rs := [0]) (by kernel_rfl) (by simp) (AllReadyIn.cons rfl (fun K hK => ?_) AllReadyIn.nil)
          go_simp
          refine hK _ _ ?_
          clear hK K z1
          refine wpAnyIn_take (i := 3) (v := ?_) rfl rfl (by kernel_rfl) (by kernel_rfl) (by kernel_rfl) (fun _ _ _ h => h) ⟨Or.inl ⟨by rfl, ?_⟩, fun _ => rfl⟩ ?_
          case refine_2 => intro w; go_simp; rfl
          refine wpAnyIn_take (i := 4) (v := ?_) rfl rfl (by kernel_rfl) (by kernel_rfl) (by kernel_rfl) (fun _ _ _ h => h) ⟨Or.inl ⟨by rfl, ?_⟩, fun _ => rfl⟩ ?_
          case refine_2 => intro w; go_simp; rfl
          refine wpAnyIn_take (i := 5) (v := ?_) rfl rfl (by kernel_rfl) (by kernel_rfl) (by kernel_rfl) (fun _ _ _ h => h) ⟨Or.inl ⟨by rfl, ?_⟩, fun _ => rfl⟩ ?_
          case refine_2 => intro w; go_simp; rfl
          refine wpAnyIn_take (i := 6) (v := ?_) rfl rfl (by kernel_rfl) (by kernel_rfl) (by kernel_rfl) (fun _ _ _ h => h) ⟨Or.inl ⟨by rfl, ?_⟩, fun _ => rfl⟩ ?_
          case refine_2 => intro w; go_simp; rfl
          refine wpAnyIn_take (i := 7) (v := ?_) rfl rfl (by kernel_rfl) (by kernel_rfl) (by kernel_rfl) (fun _ _ _ h => h) ⟨Or.inl ⟨by rfl, ?_⟩, fun _ => rfl⟩ ?_
          case refine_2 => intro w; go_simp; rfl
          refine wpAnyIn_ready (rs := [8]) (by kernel_rfl) (by simp) (AllReadyIn.cons rfl (fun K hK => ?_) AllReadyIn.nil)
          go_simp
          refine HRR.out.mono ?_
          rintro e W3 (⟨rfl, hJ3, hk3⟩ | ⟨rfl, hJx3⟩)
          · have HG3 := Lib.hid (HBT.out HG1.out hk3)
            have HJ3 := Lib.hid hJ3
            clear hJ3 hk3
            refine hK _ _ ?_
            clear hK K
            refine wpAnyIn_take (i := 9) (v := ?_) rfl rfl (by kernel_rfl) (by kernel_rfl) (by kernel_rfl) (fun _ _ _ h => h) ⟨Or.inl ⟨by rfl, ?_⟩, fun _ => rfl⟩ ?_
            case refine_2 => intro w; go_simp; rfl
            refine wpAnyIn_take (i := 10) (v := ?_) rfl rfl (by kernel_rfl) (by kernel_rfl) (by kernel_rfl) (fun _ _ _ h => h) ⟨Or.inl ⟨by rfl, ?_⟩, fun _ => rfl⟩ ?_
            case refine_2 => intro w; go_simp; rfl
            refine wpAnyIn_done (by kernel_rfl) ?_ _
            gi_wp2
            go_roundw
            case rel => exact ⟨pre ++ [⟨j, HIN.out⟩], j + 1, by go_num, HLT.out, by rw [HUP.out, List.map_append, HE.out]; rfl, HG3.out, HJ3.out⟩
            case measure => simp [intOf]; have := HLT.out; omega
          · have HJ3 := Lib.hid hJx3
            clear hJx3
            refine hK _ _ ?_
            clear hK K
            refine wpAnyIn_take (i := 9) (v := ?_) rfl rfl (by kernel_rfl) (by kernel_rfl) (by kernel_rfl) (fun _ _ _ h => h) ⟨Or.inl ⟨by rfl, ?_⟩, fun _ => rfl⟩ ?_
            case refine_2 => intro w; go_simp; rfl
            refine wpAnyIn_take (i := 10) (v := ?_) rfl rfl (by kernel_rfl) (by kernel_rfl) (by kernel_rfl) (fun _ _ _ h => h) ⟨Or.inl ⟨by rfl, ?_⟩, fun _ => rfl⟩ ?_
            case refine_2 => intro w; go_simp; rfl
            refine wpAnyIn_done (by kernel_rfl) ?_ _
            gi_wp2
            refine bodyPost_ret (results_none rfl _ _ _) rfl ?_
            exact ⟨⟨_, rfl⟩, .inr ⟨pre ++ [⟨j, HIN.out⟩], by show List.map Subtype.val _ <+: _; rw [List.map_append, HE.out]; exact HUP.out ▸ upT_who (mask := mask) (n := j + 1) HLT.out, HJ3.out⟩⟩
    · obtain rfl : j = 64 := by omega
      clear hlt
      gi_wp2
      go_end0
      exact ⟨⟨_, rfl⟩, .inl ⟨pre, HE.out, HJ.out⟩⟩
end Go.Proofs.Ytlhnjaeocoafnaa
