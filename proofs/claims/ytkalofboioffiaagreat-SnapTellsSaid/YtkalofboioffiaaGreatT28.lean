import Derived.Laws.ShiftsVarLaws
import Derived.Laws.BitsAllLaws
import Derived.Test.YtkalofboioffiaaGreatT25
namespace Go.Proofs.YtkalofboioffiaaGreat
open Go.RowKit
set_option maxRecDepth 200000
set_option maxHeartbeats 64000000
def yhy : Prop := ∀ (v : Int) (w : World), Calls Tryz.prog 197 #[.int .i64 v] w fun e w' => e = .returned (.int .u64 (bitN v : Int)) ∧ Below w.heap.size w w'
theorem zsb : yhy := fun v w => by
 by_cases h0 : v < 0
 ·
  have t0 : decide (v < 0) = true := decide_eq_true h0
  rw [show bitN v = 0 from if_neg (by omega)]
  clear h0
  go_enter Tryz.func197, Tryz.ntmps197
  go_wp2_with fail
  go_ret
  exact ⟨rfl, Below.refl _ _⟩
 ·
  have t0 : decide (v < 0) = false := decide_eq_false h0
  by_cases h1 : 64 ≤ v
  ·
   have t1 : decide (64 ≤ v) = true := decide_eq_true h1
   rw [show bitN v = 0 from if_neg (by omega)]
   clear h0 h1
   go_enter Tryz.func197, Tryz.ntmps197
   go_wp2_with fail
   go_ret
   exact ⟨rfl, Below.refl _ _⟩
  ·
   have t1 : decide (64 ≤ v) = false := decide_eq_false h1
   obtain ⟨n, rfl⟩ : ∃ n : Nat, v = n := ⟨v.toNat, by omega⟩
   have hn : n < 64 := by omega
   rw [zip hn]
   have HX : Hid (IntKind.u64.wrap (1 * 2 ^ min ((n : Int)).toNat 64) = ((2 ^ n : Nat) : Int)) := by
    show _ = _
    have e : min ((n : Int)).toNat 64 = n := by omega
    have : 2 ^ n ≤ 2 ^ 63 := Nat.pow_le_pow_right (by omega) (by omega)
    rw [e, Int.one_mul, show ((2 : Int) ^ n) = ((2 ^ n : Nat) : Int) by simp, IntKind.wrap_u64]
    generalize 2 ^ n = x at *
    omega
   have h2 : (0 : Int) ≤ (n : Int) := by omega
   clear h0 h1 hn
   go_enter Tryz.func197, Tryz.ntmps197
   go_wp2_with fail
   go_ret
   exact ⟨by have := HX.out; simpa using this, Below.refl _ _⟩
theorem zmv : ∀ args w, (callFunc 197 args).run Tryz.prog w = .ok (.enter 197 args) w := za7 Tryz.func197 (by kernel_rfl) (by kernel_rfl)
theorem z3s (mask : UInt64) {j : Nat} (h : j < 64) : bits .and .u64 (mask.toNat : Int) (bitN (j : Int) : Int) = ((mask.toNat &&& 2 ^ j : Nat) : Int) := by
 have : 2 ^ j ≤ 2 ^ 63 := Nat.pow_le_pow_right (by omega) (by omega)
 rw [zip h, bits_and_u64_nat _ _ mask.toNat_lt (by omega)]
theorem yel (x j : Nat) : x &&& 2 ^ j = if x.testBit j = true then 2 ^ j else 0 := by
 refine Nat.eq_of_testBit_eq fun i => ?_
 rw [Nat.testBit_and, Nat.testBit_two_pow]
 by_cases e : j = i
 ·
  subst e
  cases h : x.testBit j <;> simp
 ·
  rw [decide_eq_false e, Bool.and_false]
  split
  ·
   rw [Nat.testBit_two_pow, decide_eq_false e]
  ·
   simp
theorem z3t (mask : UInt64) (j : Nat) : (((mask.toNat &&& 2 ^ j : Nat) : Int) != 0) = hasB mask j := by
 unfold hasB
 rw [yel]
 have hp := Nat.two_pow_pos j
 by_cases h : mask.toNat.testBit j = true
 ·
  rw [if_pos h, h, bne_iff_ne]
  generalize 2 ^ j = x at *
  omega
 ·
  rw [if_neg h, eq_false_of_ne_true h]
  rfl
def clrU (x j : Nat) : Nat := x >>> j <<< j
theorem zmk (x j i : Nat) : (clrU x j).testBit i = (decide (j ≤ i) && x.testBit i) := by
 unfold clrU
 rw [Nat.testBit_shiftLeft, Nat.testBit_shiftRight]
 by_cases h : j ≤ i
 ·
  simp only [ge_iff_le, decide_eq_true h]; rw [show j + (i - j) = i by omega]
 ·
  simp only [ge_iff_le, decide_eq_false h, Bool.false_and]
theorem z98 (x : Nat) : clrU x 0 = x := Nat.eq_of_testBit_eq fun i => by rw [zmk, decide_eq_true (Nat.zero_le _), Bool.true_and]
theorem yie (x j : Nat) : clrU x j ≤ x := by
 unfold clrU
 rw [Nat.shiftRight_eq_div_pow, Nat.shiftLeft_eq]
 exact Nat.div_mul_le_self _ _
theorem z96 {x j : Nat} (hx : x < 18446744073709551616) (h : j < 64) : bits .andNot .u64 (clrU x j : Int) (bitN (j : Int) : Int) = (clrU x (j + 1) : Int) := by
 have h2 : 2 ^ j ≤ 2 ^ 63 := Nat.pow_le_pow_right (by omega) (by omega)
 have h3 := yie x j
 rw [zip h, u64_andNot_nat _ _ (by omega) (by omega)]
 congr 1
 refine Nat.eq_of_testBit_eq fun i => ?_
 rw [Nat.testBit_and, zmk, zmk, show 18446744073709551615 - 2 ^ j = 2 ^ 64 - (2 ^ j + 1) by omega, Nat.testBit_two_pow_sub_succ (by omega), Nat.testBit_two_pow]
 by_cases h4 : i < 64
 ·
  rw [decide_eq_true h4, Bool.true_and]
  by_cases e : j = i
  ·
   subst e; rw [decide_eq_false (show ¬ j + 1 ≤ j by omega)]; simp
  ·
   rw [decide_eq_false e]
   by_cases e2 : j ≤ i
   ·
    rw [decide_eq_true e2, decide_eq_true (show j + 1 ≤ i by omega)]; simp
   ·
    rw [decide_eq_false e2, decide_eq_false (show ¬ j + 1 ≤ i by omega)]; simp
 ·
  have : x.testBit i = false := Nat.testBit_lt_two_pow (Nat.lt_of_lt_of_le hx (show 18446744073709551616 ≤ 2 ^ i by rw [show 18446744073709551616 = 2 ^ 64 from rfl]; exact Nat.pow_le_pow_right (by omega) (by omega)))
  rw [this]; simp
theorem z97 {x n : Nat} : clrU x n = 0 ↔ ∀ i, n ≤ i → x.testBit i = false := by
 constructor
 ·
  intro e i hi
  have := zmk x n i
  rw [e, Nat.zero_testBit, decide_eq_true hi, Bool.true_and] at this
  exact this.symm
 ·
  intro h
  refine Nat.eq_of_testBit_eq fun i => ?_
  rw [zmk, Nat.zero_testBit]
  by_cases hi : n ≤ i
  ·
   rw [h i hi, Bool.and_false]
  ·
   rw [decide_eq_false hi, Bool.false_and]
section
open Go.Shelf
attribute [local go_sem] Oper.semAt_some
@[local go_sem ↓ high] theorem ygx {P : Program} (l : Option Nat) (ρ : Operand → Value) (o : Oper) (w : World) (h : ∀ c, o.op ≠ .defer c) : (Oper.semAt l ρ o).run P w = (execOp ρ o).run P w := by rw [Oper.semAt_eq l ρ o h]
theorem z76 (m : Int) (w : World) :
  Calls Tryz.prog 209 #[.int .u64 m] w fun e w' => e = .returned (.func (.func 213) #[] #[.pointer (some ⟨w.heap.size, 0, none⟩)]) ∧ w' = w.alloc (.cells #[.int .u64 m] 27) := by
 go_enter Tryz.func209, Tryz.ntmps209
 go_wp2_with fail
 go_ret
 exact ⟨rfl, rfl⟩
def upT (mask : UInt64) (n : Nat) : List Nat := (List.range n).filter (hasB mask)
theorem z8g {mask : UInt64} {n : Nat} (h : hasB mask n = true) : upT mask (n + 1) = upT mask n ++ [n] := by unfold upT; rw [List.range_succ, List.filter_append]; simp [h]
theorem z8e {mask : UInt64} {n : Nat} (h : hasB mask n = false) : upT mask (n + 1) = upT mask n := by unfold upT; rw [List.range_succ, List.filter_append]; simp [h]
theorem z8f (mask : UInt64) (n : Nat) : ∀ d, upT mask n <+: upT mask (n + d)
 | 0 => List.prefix_refl _
 | d + 1 => by
  have ih := z8f mask n d
  cases h : hasB mask (n + d)
  ·
   rw [show n + (d + 1) = n + d + 1 from rfl, z8e h]; exact ih
  ·
   rw [show n + (d + 1) = n + d + 1 from rfl, z8g h]; exact ih.trans (List.prefix_append _ _)
theorem zxx {mask : UInt64} {n : Nat} (h : n ≤ 64) : upT mask n <+: whoT mask := by
 have := z8f mask n (64 - n)
 rwa [show n + (64 - n) = 64 by omega] at this
theorem z0p (d : Nat) (hd : 1 ≤ d) (mask : UInt64) (s0 D bt : Nat) (w : World) (hs0 : s0 ≤ w.heap.size) (hDb : D < bt) (t0 : w.heap[bt]? = some (.cells #[.int .u64 (mask.toNat : Int)] 27 (0, 0))) :
  SeqStopsK Fence.wide d Tryz.prog 213 #[.pointer (some ⟨bt, 0, none⟩)] (fun x : { x : Nat // x ∈ whoT mask } => #[Value.int .i64 (x.1 : Int)]) (But s0 w.heap.size D) (fun ys => ys.map Subtype.val = whoT mask) (fun pre => pre.map Subtype.val <+: whoT mask) (whoT mask).length w := by
 intro lo J Jx W hW hAJ _ hY hJ0
 have hsz : ∀ {k : Nat} {o : Obj}, w.heap[k]? = some o → k < w.heap.size := fun e => (Array.getElem?_eq_some_iff.1 e).1
 have HT : Hid (∀ W', But s0 w.heap.size D w W' → W'.heap[bt]? = some (.cells #[.int .u64 (mask.toNat : Int)] 27 (0, 0))) := fun W' g => g.blk (hsz t0) (by omega) t0
 have HG0 : Hid (But s0 w.heap.size D w W) := But.of_below hW hs0
 have HGZ : Hid (∀ {W1 W' : World}, w.heap.size ≤ W1.heap.size → But s0 w.heap.size D w W1 → Below W1.heap.size W1 W' → But s0 w.heap.size D w W') := fun hs g k => g.then k hs0 hs
 have HBT : Hid (∀ {A B C : World}, But s0 w.heap.size D A B → But s0 w.heap.size D B C → But s0 w.heap.size D A C) := fun h k => h.trans k
 have HWs : Hid (w.heap.size ≤ W.heap.size) := hW.size
 have HBS : Hid (∀ W', But s0 w.heap.size D w W' → w.heap.size ≤ W'.heap.size) := fun W' g => by
  have := (Array.getElem?_eq_some_iff.1 t0).1
  exact Nat.le_of_not_lt fun hlt => by
   by_cases e : w.heap.size - 1 = D
   ·
    omega
   ·
    have k := g.block (w.heap.size - 1) (by omega) e
    rw [Array.getElem?_eq_none (by omega), Array.getElem?_eq_getElem (by omega)] at k
    cases k
 have HAJ : Hid (∀ pre W1 W', J pre W1 → Below W1.heap.size W1 W' → J pre W') := fun pre W1 W' hj g => hAJ pre W1 W' none hj (zbd g) (fun r e => by cases e)
 have HY := Lib.hid hY
 have HJ0 := Lib.hid hJ0
 have HB := Lib.hid (fun (v : Int) W => zsb v W)
 have HM : Hid (∀ j : Nat, j < 64 → bits .and .u64 (mask.toNat : Int) (bitN (j : Int) : Int) = ((mask.toNat &&& 2 ^ j : Nat) : Int)) := fun j h => z3s mask h
 have HH : Hid (∀ j : Nat, (((mask.toNat &&& 2 ^ j : Nat) : Int) != 0) = hasB mask j) := fun j => z3t mask j
 clear hsz hY hJ0 hW hAJ t0 hDb hs0
 obtain ⟨m, hm⟩ : ∃ m, m = (mask.toNat : Int) := ⟨_, rfl⟩
 rw [← hm] at HT HM
 clear hm
 generalize But s0 w.heap.size D = BU at *
 have hmix : Tryz.prog.follows .mixedOrders = true := by kernel_rfl
 refine callsIn_of_wp Tryz.func213 rfl trivial ?_ rfl
 simp only [Tryz.ntmps213, List.size_toArray, List.length_cons, List.length_nil, Nat.reduceAdd, Nat.reduceSub, Array.replicate_succ, Array.replicate_zero, List.push_toArray, List.append_toArray, List.nil_append, List.cons_append]
 gi_wp2
 gi_loopw [4] (fun v wr => ∃ (pre : List { x : Nat // x ∈ whoT mask }) (j : Nat), v = .int .i64 (j : Int) ∧ j ≤ 64 ∧ pre.map Subtype.val = upT mask j ∧ BU w wr ∧ J pre wr) (fun v _ => 64 - (intOf v).toNat)
 case atStart => exact ⟨[], 0, rfl, Nat.zero_le _, rfl, HG0.out, HJ0.out⟩
 case round =>
  obtain ⟨pre, j, rfl, hj, hpre, hg, hjj⟩ := hrel
  have HG := Lib.hid hg
  have HJ := Lib.hid hjj
  have HE := Lib.hid hpre
  clear hg hjj hpre
  by_cases hlt : j < 64
  ·
   have d0 : decide ((j : Int) < 64) = true := decide_eq_true (by omega)
   have d0' : decide (j < 64) = true := decide_eq_true hlt
   have u1 : (j : Int) + 1 < 10000 := by omega
   have HLT := Lib.hid hlt
   obtain ⟨r, hr⟩ : ∃ r, r = hasB mask j := ⟨_, rfl⟩
   obtain ⟨x, hx⟩ : ∃ x, x = ((mask.toNat &&& 2 ^ j : Nat) : Int) := ⟨_, rfl⟩
   obtain ⟨b, hb⟩ : ∃ b, b = (bitN (j : Int) : Int) := ⟨_, rfl⟩
   have hA := HM.out j hlt
   have hA2 := HH.out j
   have HBj := Lib.hid (fun W => HB.out (j : Int) W)
   rw [← hb, ← hx] at hA
   rw [← hx, ← hr] at hA2
   rw [← hb] at HBj
   have HR := Lib.hid hr
   have z0 := (zam (HT.out _ HG.out)).1
   clear hlt hx hb hr
   cases r
   ·
    gi_wp2
    refine wpIn_region_any (by kernel_rfl) ?_
    try (change wpAnyIn _ _ _ _ _ _ _ _ _ (World.drew _))
    refine wpAnyIn_take (i := 1) (v := ?_) rfl rfl (by kernel_rfl) (by kernel_rfl) (by kernel_rfl) (fun _ _ _ h => h) ⟨Or.inl ⟨by rfl, ?_⟩, fun _ => rfl⟩ ?_
    case refine_2 => intro w; go_simp; rfl
    refine wpAnyIn_ready (rs := [0, 2]) (by kernel_rfl) (by simp) ?_
    refine AllReadyIn.cons rfl (fun K hK => ?_) (AllReadyIn.cons rfl (fun K hK => ?_) AllReadyIn.nil)
    ·
     go_simp
     refine hK _ _ ?_
     clear hK K
     refine wpAnyIn_ready (rs := [2]) (by kernel_rfl) (by simp) (AllReadyIn.cons rfl (fun K hK => ?_) AllReadyIn.nil)
     go_simp
     refine ⟨trivial, (callsIn_wide.2 (HBj.out _)).mono ?_⟩
     rintro e W1 ⟨rfl, g1⟩
     have HG1 := Lib.hid (HGZ.out (HBS.out _ HG.out) HG.out (zab (zah (Below.refl _ _) 1) g1))
     have HJ1 := Lib.hid (HAJ.out _ _ _ HJ.out (zab (zah (Below.refl _ _) 1) g1))
     clear g1
     refine hK _ _ ?_
     clear hK K z0
     refine wpAnyIn_take (i := 3) (v := ?_) rfl rfl (by kernel_rfl) (by kernel_rfl) (by kernel_rfl) (fun _ _ _ h => h) ⟨Or.inl ⟨by rfl, ?_⟩, fun _ => rfl⟩ ?_
     case refine_2 => intro w; go_simp; rfl
     refine wpAnyIn_take (i := 4) (v := ?_) rfl rfl (by kernel_rfl) (by kernel_rfl) (by kernel_rfl) (fun _ _ _ h => h) ⟨Or.inl ⟨by rfl, ?_⟩, fun _ => rfl⟩ ?_
     case refine_2 => intro w; go_simp; rfl
     refine wpAnyIn_take (i := 5) (v := ?_) rfl rfl (by kernel_rfl) (by kernel_rfl) (by kernel_rfl) (fun _ _ _ h => h) ⟨Or.inl ⟨by rfl, ?_⟩, fun _ => rfl⟩ ?_
     case refine_2 => intro w; go_simp; rfl
     refine wpAnyIn_take (i := 6) (v := undef) rfl rfl (by kernel_rfl) (by kernel_rfl) (by kernel_rfl) (fun _ _ _ h => h) ⟨Or.inr ⟨by rfl, rfl⟩, fun _ => rfl⟩ ?_
     refine wpAnyIn_take (i := 7) (v := undef) rfl rfl (by kernel_rfl) (by kernel_rfl) (by kernel_rfl) (fun _ _ _ h => h) ⟨Or.inr ⟨by rfl, rfl⟩, fun _ => rfl⟩ ?_
     refine wpAnyIn_ready (rs := [8]) (by kernel_rfl) (by simp) (AllReadyIn.cons rfl (fun K hK => ?_) AllReadyIn.nil)
     go_simp
     refine ⟨fun _ _ => trivial, ?_⟩
     refine hK _ _ ?_
     clear hK K
     refine wpAnyIn_take (i := 9) (v := undef) rfl rfl (by kernel_rfl) (by kernel_rfl) (by kernel_rfl) (fun _ _ _ h => h) ⟨Or.inr ⟨by rfl, rfl⟩, fun _ => rfl⟩ ?_
     refine wpAnyIn_take (i := 10) (v := ?_) rfl rfl (by kernel_rfl) (by kernel_rfl) (by kernel_rfl) (fun _ _ _ h => h) ⟨Or.inl ⟨by rfl, ?_⟩, fun _ => rfl⟩ ?_
     case refine_2 => intro w; go_simp; rfl
     refine wpAnyIn_done (by kernel_rfl) ?_ _
     gi_wp2
     go_roundw
     case rel => exact ⟨pre, j + 1, by go_num, HLT.out, by rw [z8e HR.out.symm]; exact HE.out, HG1.out, HJ1.out⟩
     case measure => simp [intOf]; have := HLT.out; omega
    ·
     go_simp
     refine ⟨trivial, (callsIn_wide.2 (HBj.out _)).mono ?_⟩
     rintro e W1 ⟨rfl, g1⟩
     have HG1 := Lib.hid (HGZ.out (HBS.out _ HG.out) HG.out (zab (zah (Below.refl _ _) 1) g1))
     have HJ1 := Lib.hid (HAJ.out _ _ _ HJ.out (zab (zah (Below.refl _ _) 1) g1))
     have z1 := (zam (HT.out _ HG1.out)).1
     clear g1
     refine hK _ _ ?_
     clear hK K z0
     refine wpAnyIn_ready (rs := [0]) (by kernel_rfl) (by simp) (AllReadyIn.cons rfl (fun K hK => ?_) AllReadyIn.nil)
     go_simp
     refine hK _ _ ?_
     clear hK K z1
     refine wpAnyIn_take (i := 3) (v := ?_) rfl rfl (by kernel_rfl) (by kernel_rfl) (by kernel_rfl) (fun _ _ _ h => h) ⟨Or.inl ⟨by rfl, ?_⟩, fun _ => rfl⟩ ?_
     case refine_2 => intro w; go_simp; rfl
     refine wpAnyIn_take (i := 4) (v := ?_) rfl rfl (by kernel_rfl) (by kernel_rfl) (by kernel_rfl) (fun _ _ _ h => h) ⟨Or.inl ⟨by rfl, ?_⟩, fun _ => rfl⟩ ?_
     case refine_2 => intro w; go_simp; rfl
     refine wpAnyIn_take (i := 5) (v := ?_) rfl rfl (by kernel_rfl) (by kernel_rfl) (by kernel_rfl) (fun _ _ _ h => h) ⟨Or.inl ⟨by rfl, ?_⟩, fun _ => rfl⟩ ?_
     case refine_2 => intro w; go_simp; rfl
     refine wpAnyIn_take (i := 6) (v := undef) rfl rfl (by kernel_rfl) (by kernel_rfl) (by kernel_rfl) (fun _ _ _ h => h) ⟨Or.inr ⟨by rfl, rfl⟩, fun _ => rfl⟩ ?_
     refine wpAnyIn_take (i := 7) (v := undef) rfl rfl (by kernel_rfl) (by kernel_rfl) (by kernel_rfl) (fun _ _ _ h => h) ⟨Or.inr ⟨by rfl, rfl⟩, fun _ => rfl⟩ ?_
     refine wpAnyIn_ready (rs := [8]) (by kernel_rfl) (by simp) (AllReadyIn.cons rfl (fun K hK => ?_) AllReadyIn.nil)
     go_simp
     refine ⟨fun _ _ => trivial, ?_⟩
     refine hK _ _ ?_
     clear hK K
     refine wpAnyIn_take (i := 9) (v := undef) rfl rfl (by kernel_rfl) (by kernel_rfl) (by kernel_rfl) (fun _ _ _ h => h) ⟨Or.inr ⟨by rfl, rfl⟩, fun _ => rfl⟩ ?_
     refine wpAnyIn_take (i := 10) (v := ?_) rfl rfl (by kernel_rfl) (by kernel_rfl) (by kernel_rfl) (fun _ _ _ h => h) ⟨Or.inl ⟨by rfl, ?_⟩, fun _ => rfl⟩ ?_
     case refine_2 => intro w; go_simp; rfl
     refine wpAnyIn_done (by kernel_rfl) ?_ _
     gi_wp2
     go_roundw
     case rel => exact ⟨pre, j + 1, by go_num, HLT.out, by rw [z8e HR.out.symm]; exact HE.out, HG1.out, HJ1.out⟩
     case measure => simp [intOf]; have := HLT.out; omega
   ·
    have HIN : Hid (j ∈ whoT mask) := ygc.2 ⟨HLT.out, HR.out.symm⟩
    have HUP : Hid (upT mask (j + 1) = upT mask j ++ [j]) := z8g HR.out.symm
    have HLN : Hid (pre.length < (whoT mask).length) := by
     show pre.length < _
     have h1 := (zxx (mask := mask) (n := j + 1) HLT.out).length_le
     have h2 := congrArg List.length HE.out
     rw [List.length_map] at h2
     rw [HUP.out, List.length_append, ← h2] at h1
     exact h1
    gi_wp2
    refine wpIn_region_any (by kernel_rfl) ?_
    try (change wpAnyIn _ _ _ _ _ _ _ _ _ (World.drew _))
    refine wpAnyIn_take (i := 1) (v := ?_) rfl rfl (by kernel_rfl) (by kernel_rfl) (by kernel_rfl) (fun _ _ _ h => h) ⟨Or.inl ⟨by rfl, ?_⟩, fun _ => rfl⟩ ?_
    case refine_2 => intro w; go_simp; rfl
    refine wpAnyIn_ready (rs := [0, 2]) (by kernel_rfl) (by simp) ?_
    refine AllReadyIn.cons rfl (fun K hK => ?_) (AllReadyIn.cons rfl (fun K hK => ?_) AllReadyIn.nil)
    ·
     go_simp
     refine hK _ _ ?_
     clear hK K
     refine wpAnyIn_ready (rs := [2]) (by kernel_rfl) (by simp) (AllReadyIn.cons rfl (fun K hK => ?_) AllReadyIn.nil)
     go_simp
     refine ⟨trivial, (callsIn_wide.2 (HBj.out _)).mono ?_⟩
     rintro e W1 ⟨rfl, g1⟩
     have HG1 := Lib.hid (HGZ.out (HBS.out _ HG.out) HG.out (zab (zah (Below.refl _ _) 1) g1))
     have HJ1 := Lib.hid (HAJ.out _ _ _ HJ.out (zab (zah (Below.refl _ _) 1) g1))
     clear g1
     obtain ⟨fn, tmps, assign, body, hy, hR⟩ := HY.out pre ⟨j, HIN.out⟩ W1 HJ1.out HLN.out
     have HRR := Lib.hid hR
     clear hR
     refine hK _ _ ?_
     clear hK K z0
     refine wpAnyIn_take (i := 3) (v := ?_) rfl rfl (by kernel_rfl) (by kernel_rfl) (by kernel_rfl) (fun _ _ _ h => h) ⟨Or.inl ⟨by rfl, ?_⟩, fun _ => rfl⟩ ?_
     case refine_2 => intro w; go_simp; rfl
     refine wpAnyIn_take (i := 4) (v := ?_) rfl rfl (by kernel_rfl) (by kernel_rfl) (by kernel_rfl) (fun _ _ _ h => h) ⟨Or.inl ⟨by rfl, ?_⟩, fun _ => rfl⟩ ?_
     case refine_2 => intro w; go_simp; rfl
     refine wpAnyIn_take (i := 5) (v := ?_) rfl rfl (by kernel_rfl) (by kernel_rfl) (by kernel_rfl) (fun _ _ _ h => h) ⟨Or.inl ⟨by rfl, ?_⟩, fun _ => rfl⟩ ?_
     case refine_2 => intro w; go_simp; rfl
     refine wpAnyIn_take (i := 6) (v := ?_) rfl rfl (by kernel_rfl) (by kernel_rfl) (by kernel_rfl) (fun _ _ _ h => h) ⟨Or.inl ⟨by rfl, ?_⟩, fun _ => rfl⟩ ?_
     case refine_2 => intro w; go_simp; rfl
     refine wpAnyIn_take (i := 7) (v := ?_) rfl rfl (by kernel_rfl) (by kernel_rfl) (by kernel_rfl) (fun _ _ _ h => h) ⟨Or.inl ⟨by rfl, ?_⟩, fun _ => rfl⟩ ?_
     case refine_2 => intro w; go_simp; rfl
     refine wpAnyIn_ready (rs := [8]) (by kernel_rfl) (by simp) (AllReadyIn.cons rfl (fun K hK => ?_) AllReadyIn.nil)
     go_simp
     refine HRR.out.mono ?_
     rintro e W3 (⟨rfl, hJ3, hk3⟩ | ⟨rfl, hJx3⟩)
     ·
      have HG3 := Lib.hid (HBT.out HG1.out hk3)
      have HJ3 := Lib.hid hJ3
      clear hJ3 hk3
      refine hK _ _ ?_
      clear hK K
      refine wpAnyIn_take (i := 9) (v := ?_) rfl rfl (by kernel_rfl) (by kernel_rfl) (by kernel_rfl) (fun _ _ _ h => h) ⟨Or.inl ⟨by rfl, ?_⟩, fun _ => rfl⟩ ?_
      case refine_2 => intro w; go_simp; rfl
      refine wpAnyIn_take (i := 10) (v := ?_) rfl rfl (by kernel_rfl) (by kernel_rfl) (by kernel_rfl) (fun _ _ _ h => h) ⟨Or.inl ⟨by rfl, ?_⟩, fun _ => rfl⟩ ?_
      case refine_2 => intro w; go_simp; rfl
      refine wpAnyIn_done (by kernel_rfl) ?_ _
      gi_wp2
      go_roundw
      case rel => exact ⟨pre ++ [⟨j, HIN.out⟩], j + 1, by go_num, HLT.out, by rw [HUP.out, List.map_append, HE.out]; rfl, HG3.out, HJ3.out⟩
      case measure => simp [intOf]; have := HLT.out; omega
     ·
      have HJ3 := Lib.hid hJx3
      clear hJx3
      refine hK _ _ ?_
      clear hK K
      refine wpAnyIn_take (i := 9) (v := ?_) rfl rfl (by kernel_rfl) (by kernel_rfl) (by kernel_rfl) (fun _ _ _ h => h) ⟨Or.inl ⟨by rfl, ?_⟩, fun _ => rfl⟩ ?_
      case refine_2 => intro w; go_simp; rfl
      refine wpAnyIn_take (i := 10) (v := ?_) rfl rfl (by kernel_rfl) (by kernel_rfl) (by kernel_rfl) (fun _ _ _ h => h) ⟨Or.inl ⟨by rfl, ?_⟩, fun _ => rfl⟩ ?_
      case refine_2 => intro w; go_simp; rfl
      refine wpAnyIn_done (by kernel_rfl) ?_ _
      gi_wp2
      refine bodyPost_ret (results_none rfl _ _ _) rfl ?_
      exact ⟨⟨_, rfl⟩, .inr ⟨pre ++ [⟨j, HIN.out⟩], by show List.map Subtype.val _ <+: _; rw [List.map_append, HE.out]; exact HUP.out ▸ zxx (mask := mask) (n := j + 1) HLT.out, HJ3.out⟩⟩
    ·
     go_simp
     refine ⟨trivial, (callsIn_wide.2 (HBj.out _)).mono ?_⟩
     rintro e W1 ⟨rfl, g1⟩
     have HG1 := Lib.hid (HGZ.out (HBS.out _ HG.out) HG.out (zab (zah (Below.refl _ _) 1) g1))
     have HJ1 := Lib.hid (HAJ.out _ _ _ HJ.out (zab (zah (Below.refl _ _) 1) g1))
     have z1 := (zam (HT.out _ HG1.out)).1
     clear g1
     obtain ⟨fn, tmps, assign, body, hy, hR⟩ := HY.out pre ⟨j, HIN.out⟩ W1 HJ1.out HLN.out
     have HRR := Lib.hid hR
     clear hR
     refine hK _ _ ?_
     clear hK K z0
     refine wpAnyIn_ready (rs := [0]) (by kernel_rfl) (by simp) (AllReadyIn.cons rfl (fun K hK => ?_) AllReadyIn.nil)
     go_simp
     refine hK _ _ ?_
     clear hK K z1
     refine wpAnyIn_take (i := 3) (v := ?_) rfl rfl (by kernel_rfl) (by kernel_rfl) (by kernel_rfl) (fun _ _ _ h => h) ⟨Or.inl ⟨by rfl, ?_⟩, fun _ => rfl⟩ ?_
     case refine_2 => intro w; go_simp; rfl
     refine wpAnyIn_take (i := 4) (v := ?_) rfl rfl (by kernel_rfl) (by kernel_rfl) (by kernel_rfl) (fun _ _ _ h => h) ⟨Or.inl ⟨by rfl, ?_⟩, fun _ => rfl⟩ ?_
     case refine_2 => intro w; go_simp; rfl
     refine wpAnyIn_take (i := 5) (v := ?_) rfl rfl (by kernel_rfl) (by kernel_rfl) (by kernel_rfl) (fun _ _ _ h => h) ⟨Or.inl ⟨by rfl, ?_⟩, fun _ => rfl⟩ ?_
     case refine_2 => intro w; go_simp; rfl
     refine wpAnyIn_take (i := 6) (v := ?_) rfl rfl (by kernel_rfl) (by kernel_rfl) (by kernel_rfl) (fun _ _ _ h => h) ⟨Or.inl ⟨by rfl, ?_⟩, fun _ => rfl⟩ ?_
     case refine_2 => intro w; go_simp; rfl
     refine wpAnyIn_take (i := 7) (v := ?_) rfl rfl (by kernel_rfl) (by kernel_rfl) (by kernel_rfl) (fun _ _ _ h => h) ⟨Or.inl ⟨by rfl, ?_⟩, fun _ => rfl⟩ ?_
     case refine_2 => intro w; go_simp; rfl
     refine wpAnyIn_ready (rs := [8]) (by kernel_rfl) (by simp) (AllReadyIn.cons rfl (fun K hK => ?_) AllReadyIn.nil)
     go_simp
     refine HRR.out.mono ?_
     rintro e W3 (⟨rfl, hJ3, hk3⟩ | ⟨rfl, hJx3⟩)
     ·
      have HG3 := Lib.hid (HBT.out HG1.out hk3)
      have HJ3 := Lib.hid hJ3
      clear hJ3 hk3
      refine hK _ _ ?_
      clear hK K
      refine wpAnyIn_take (i := 9) (v := ?_) rfl rfl (by kernel_rfl) (by kernel_rfl) (by kernel_rfl) (fun _ _ _ h => h) ⟨Or.inl ⟨by rfl, ?_⟩, fun _ => rfl⟩ ?_
      case refine_2 => intro w; go_simp; rfl
      refine wpAnyIn_take (i := 10) (v := ?_) rfl rfl (by kernel_rfl) (by kernel_rfl) (by kernel_rfl) (fun _ _ _ h => h) ⟨Or.inl ⟨by rfl, ?_⟩, fun _ => rfl⟩ ?_
      case refine_2 => intro w; go_simp; rfl
      refine wpAnyIn_done (by kernel_rfl) ?_ _
      gi_wp2
      go_roundw
      case rel => exact ⟨pre ++ [⟨j, HIN.out⟩], j + 1, by go_num, HLT.out, by rw [HUP.out, List.map_append, HE.out]; rfl, HG3.out, HJ3.out⟩
      case measure => simp [intOf]; have := HLT.out; omega
     ·
      have HJ3 := Lib.hid hJx3
      clear hJx3
      refine hK _ _ ?_
      clear hK K
      refine wpAnyIn_take (i := 9) (v := ?_) rfl rfl (by kernel_rfl) (by kernel_rfl) (by kernel_rfl) (fun _ _ _ h => h) ⟨Or.inl ⟨by rfl, ?_⟩, fun _ => rfl⟩ ?_
      case refine_2 => intro w; go_simp; rfl
      refine wpAnyIn_take (i := 10) (v := ?_) rfl rfl (by kernel_rfl) (by kernel_rfl) (by kernel_rfl) (fun _ _ _ h => h) ⟨Or.inl ⟨by rfl, ?_⟩, fun _ => rfl⟩ ?_
      case refine_2 => intro w; go_simp; rfl
      refine wpAnyIn_done (by kernel_rfl) ?_ _
      gi_wp2
      refine bodyPost_ret (results_none rfl _ _ _) rfl ?_
      exact ⟨⟨_, rfl⟩, .inr ⟨pre ++ [⟨j, HIN.out⟩], by show List.map Subtype.val _ <+: _; rw [List.map_append, HE.out]; exact HUP.out ▸ zxx (mask := mask) (n := j + 1) HLT.out, HJ3.out⟩⟩
  ·
   obtain rfl : j = 64 := by omega
   clear hlt
   gi_wp2
   go_end0
   exact ⟨⟨_, rfl⟩, .inl ⟨pre, HE.out, HJ.out⟩⟩
end
def yhz : Prop := ∀ (v : Value) (l : List UInt64) (w : World), SlE Enum w v l → Calls Tryz.prog 56 #[v] w fun e w' => e = .returned (.bool (mayB l)) ∧ Below w.heap.size w w'
def mxU (f : Nat → Nat) : Nat → Nat
 | 0 => 0
 | n + 1 => if mxU f n < f n then f n else mxU f n
theorem ydu (f : Nat → Nat) (B : Nat) : ∀ n, mxU f n ≤ B ↔ ∀ i, i < n → f i ≤ B
 | 0 => ⟨fun _ i hi => absurd hi (Nat.not_lt_zero _), fun _ => Nat.zero_le _⟩
 | n + 1 => by
  have ih := ydu f B n
  simp only [mxU]
  constructor
  ·
   intro h i hi
   split at h
   ·
    rename_i hc
    rcases Nat.lt_succ_iff_lt_or_eq.1 hi with h1 | rfl
    ·
     exact ih.1 (by omega) i h1
    ·
     exact h
   ·
    rename_i hc
    rcases Nat.lt_succ_iff_lt_or_eq.1 hi with h1 | rfl
    ·
     exact ih.1 h i h1
    ·
     omega
  ·
   intro h
   have h1 := ih.2 (fun i hi => h i (by omega))
   have h2 := h n (by omega)
   split <;> omega
theorem z6g {f : Nat → Nat} {n : Nat} (h : mxU f n < f n) : mxU f (n + 1) = f n := if_pos h
theorem ydv {f : Nat → Nat} {n : Nat} (h : ¬ mxU f n < f n) : mxU f (n + 1) = mxU f n := if_neg h
theorem zxm (p : Option Addr) (n cp : Nat) (l : List UInt64) (w : World) (h : SlE Enum w (.slice p n cp) l) (hl : l.length = n) (h1 : 1 ≤ n) (hn : n ≤ 1000) :
  Calls Tryz.prog 100 #[.slice p n cp] w fun e w' => e = .returned (.int .u64 (mxU (fn l) n : Int)) ∧ Below w.heap.size w w' := by
 have HS := Lib.hid h
 have HL := Lib.hid hl
 have HN := Lib.hid hn
 have H1 := Lib.hid h1
 have HZ : Hid (mxU (fn l) 1 = fn l 0) := by
  show mxU (fn l) 1 = fn l 0
  by_cases h0 : mxU (fn l) 0 < fn l 0
  ·
   exact z6g h0
  ·
   rw [ydv h0]; have : mxU (fn l) 0 = 0 := rfl; omega
 obtain ⟨b1, o1, rfl, q1, x1⟩ := zcm h (by omega)
 have y1 := zbt x1 (i := 0) (by omega)
 have t0 : decide ((n : Int) < 1) = false := decide_eq_false (by omega)
 have t0' : decide (n < 1) = false := decide_eq_false (by omega)
 have t0'' : decide (n = 0) = false := decide_eq_false (by omega)
 have i1 : (0 : Int) < (n : Int) := by omega
 have i1' : 0 < n := by omega
 clear h hl hn h1 x1 q1
 simp only [Nat.add_zero] at y1
 go_enter Tryz.func100, Tryz.ntmps100
 go_wp2_with fail
 clear y1 t0 t0' t0'' i1 i1'
 go_loopw [3, 4] (fun m i wr => ∃ j : Nat, 1 ≤ j ∧ j ≤ n ∧ i = .int .i64 (j : Int) ∧ m = .int .u64 (mxU (fn l) j : Int) ∧ wr = w) (fun _ i _ => n - (intOf i).toNat)
 case atStart => exact ⟨1, Nat.le_refl _, H1.out, rfl, by rw [HZ.out], rfl⟩
 case round =>
  obtain ⟨j, hj1, hj, rfl, rfl, rfl⟩ := hrel
  have HJ1 := Lib.hid hj1
  clear hj1
  by_cases hlt : j < n
  ·
   have i0 : (0 : Int) ≤ (j : Int) := by omega
   have i1 : (j : Int) < (n : Int) := by omega
   have u1 : (j : Int) + 1 < 10000 := by have := HN.out; omega
   have d0 : decide ((j : Int) < (n : Int)) = true := decide_eq_true i1
   have d0' : decide (j < n) = true := decide_eq_true hlt
   obtain ⟨b1, o1, e1, q1, x1⟩ := zcm HS.out (by have := HL.out; omega)
   cases e1
   have y1 := zbt x1 (i := j) (by have := HL.out; omega)
   have HLT := Lib.hid hlt
   by_cases hc : mxU (fn l) j < fn l j
   ·
    have HX := Lib.hid (z6g hc)
    obtain ⟨x, hx⟩ : ∃ x, x = mxU (fn l) j := ⟨_, rfl⟩
    obtain ⟨y, hy⟩ : ∃ y, y = fn l j := ⟨_, rfl⟩
    rw [← hx] at hc
    rw [← hx]
    rw [← hy] at hc y1 HX
    have c1 : (x : Int) < (y : Int) := by omega
    have HC := Lib.hid hc
    clear hlt x1 q1 hx hy
    go_wp2_with fail
    go_roundw
    case rel => exact ⟨j + 1, by have := HJ1.out; omega, HLT.out, by go_num, by rw [HX.out], by first | rfl | trivial⟩
    case measure => simp [intOf]; have := HLT.out; omega
   ·
    have HX := Lib.hid (ydv hc)
    obtain ⟨x, hx⟩ : ∃ x, x = mxU (fn l) j := ⟨_, rfl⟩
    obtain ⟨y, hy⟩ : ∃ y, y = fn l j := ⟨_, rfl⟩
    rw [← hx] at hc HX
    rw [← hx]
    rw [← hy] at hc y1
    have c1 : ¬ (x : Int) < (y : Int) := by omega
    have HC := Lib.hid hc
    clear hlt x1 q1 hx hy
    go_wp2_with fail
    go_roundw
    case rel => exact ⟨j + 1, by have := HJ1.out; omega, HLT.out, by go_num, by rw [HX.out], by first | rfl | trivial⟩
    case measure => simp [intOf]; have := HLT.out; omega
  ·
   obtain rfl : j = n := by omega
   clear hlt
   go_wp2_with fail
   go_ret
   exact ⟨rfl, Below.refl _ _⟩
theorem zkm (p : Option Addr) (n cp : Nat) (l : List UInt64) (w : World) (h : SlE Enum w (.slice p n cp) l) (hl : l.length = n) :
  Calls Tryz.prog 56 #[.slice p n cp] w fun e w' => e = .returned (.bool (mayB l)) ∧ Below w.heap.size w w' := by
 by_cases h0 : 0 < n
 ·
  have a0 : decide ((0 : Int) < (n : Int)) = true := decide_eq_true (by omega)
  have a0' : decide (0 < n) = true := decide_eq_true h0
  by_cases h8 : n ≤ 8
  ·
   have a8 : decide ((n : Int) ≤ 8) = true := decide_eq_true (by omega)
   have a8' : decide (n ≤ 8) = true := decide_eq_true h8
   have HM := Lib.hid (zxm p n cp l w h hl (by omega) (by omega))
   have HE : Hid (mayB l = decide (mxU (fn l) n ≤ 1099511627776)) := by
    show _ = _
    rw [Bool.eq_iff_iff, zb7, decide_eq_true_iff, ydu, hl]
    exact ⟨fun h => h.2.2, fun h => ⟨by omega, h8, h⟩⟩
   generalize mxU (fn l) n = m at *
   obtain ⟨r, hr⟩ : ∃ r, r = decide (m ≤ 1099511627776) := ⟨_, rfl⟩
   have d0 : decide ((m : Int) ≤ 1099511627776) = r := by rw [hr]; congr 1; rw [eq_iff_iff]; omega
   have d0' : decide (m ≤ 1099511627776) = r := hr.symm
   rw [HE.out, d0']
   clear h0 h8 h hl hr HE
   go_enter Tryz.func56, Tryz.ntmps56
   go_wp2_with fail
   refine HM.out.mono ?_
   rintro e w1 ⟨rfl, g⟩
   go_wp2_with fail
   go_ret
   exact ⟨rfl, g⟩
  ·
   have a8 : decide ((n : Int) ≤ 8) = false := decide_eq_false (by omega)
   have a8' : decide (n ≤ 8) = false := decide_eq_false h8
   rw [show mayB l = false by rw [← Bool.not_eq_true, zb7]; omega]
   clear h0 h8 h hl
   go_enter Tryz.func56, Tryz.ntmps56
   go_wp2_with fail
   go_ret
   exact ⟨rfl, Below.refl _ _⟩
 ·
  obtain rfl : n = 0 := by omega
  rw [show mayB l = false by rw [← Bool.not_eq_true, zb7]; omega]
  clear h0 h hl
  go_enter Tryz.func56, Tryz.ntmps56
  go_wp2_with fail
  go_ret
  exact ⟨rfl, Below.refl _ _⟩
theorem zl0 : yhz := fun v l w h => by
 have k := h
 obtain ⟨p, cp, rfl, _⟩ := zal h
 exact zkm p _ cp l w k rfl
theorem z3h (mask : UInt64) : (whoT mask).Pairwise (· < ·) := by unfold whoT; exact List.Pairwise.filter _ List.pairwise_lt_range
theorem yda (mask : UInt64) : (whoT mask).length ≤ 64 := by
 unfold whoT
 have := List.length_filter_le (hasB mask) (List.range 64)
 rwa [List.length_range] at this
def ylm : Prop := ∀ (v : Value) (l : List UInt64) (m : UInt64) (w : World), SlE Enum w v l → Calls Tryz.prog 201 #[v, .int .u64 (m.toNat : Int)] w fun e w' => e = .returned (.int .u64 (ofS l m : Int)) ∧ Below w.heap.size w w'
def z89 : Prop := ∀ (v : Value) (l : List UInt64) (w : World), SlE Enum w v l → Calls Tryz.prog 202 #[v] w fun e w' => e = .returned (.int .u64 (totS l : Int)) ∧ Below w.heap.size w w'
end Go.Proofs.YtkalofboioffiaaGreat
