import Derived.Test.YtmihlihlpdkdcaaGreatK13
import Derived.Laws.ShiftsVarLaws
import Derived.Test.YtmihlihlpdkdcaaGreatK19
import Derived.Shelf.RegionOpen
import Derived.Test.YtmihlihlpdkdcaaGreatQ06
import Derived.Test.YtmihlihlpdkdcaaGreatK11
import Derived.Outline
import Derived.WalkSpells
import Derived.Laws.StructEq
import Derived.KernelRfl
namespace Go.Proofs.YtmihlihlpdkdcaaGreat
open Go.RowKit
set_option maxRecDepth 200000
set_option maxHeartbeats 64000000
section
open Go.Shelf
attribute [local go_sem] Oper.semAt_some
@[local go_sem ↓] theorem ys8 {P : Program} (l : Option Nat) (ρ : Operand → Value) (o : Oper) (w : World) (h : ∀ c, o.op ≠ .defer c) : (Oper.semAt l ρ o).run P w = (execOp ρ o).run P w := by rw [Oper.semAt_eq l ρ o h]
theorem yhf (m : Int) (w : World) :
  Calls Tryz.prog 165 #[.int .u64 m] w fun e w' => e = .returned (.func (.func 167) #[] #[.pointer (some ⟨w.heap.size, 0, none⟩)]) ∧ w' = w.alloc (.cells #[.int .u64 m] 30) := by
 go_enter Tryz.func165, Tryz.ntmps165
 go_wp2_with fail
 go_ret
 exact ⟨rfl, rfl⟩
def upT (mask : UInt64) (n : Nat) : List Nat := (List.range n).filter (hasB mask)
theorem ygz {mask : UInt64} {n : Nat} (h : hasB mask n = true) : upT mask (n + 1) = upT mask n ++ [n] := by unfold upT; rw [List.range_succ, List.filter_append]; simp [h]
theorem yev {mask : UInt64} {n : Nat} (h : hasB mask n = false) : upT mask (n + 1) = upT mask n := by unfold upT; rw [List.range_succ, List.filter_append]; simp [h]
theorem yfw (mask : UInt64) (n : Nat) : ∀ d, upT mask n <+: upT mask (n + d)
 | 0 => List.prefix_refl _
 | d + 1 => by
  have ih := yfw mask n d
  cases h : hasB mask (n + d)
  ·
   rw [show n + (d + 1) = n + d + 1 from rfl, yev h]; exact ih
  ·
   rw [show n + (d + 1) = n + d + 1 from rfl, ygz h]; exact ih.trans (List.prefix_append _ _)
theorem z4t {mask : UInt64} {n : Nat} (h : n ≤ 64) : upT mask n <+: whoT mask := by
 have := yfw mask n (64 - n)
 rwa [show n + (64 - n) = 64 by omega] at this
theorem ybx (d : Nat) (hd : 1 ≤ d) (mask : UInt64) (s0 D bt : Nat) (w : World) (hs0 : s0 ≤ w.heap.size) (hDb : D < bt) (t0 : w.heap[bt]? = some (.cells #[.int .u64 (mask.toNat : Int)] 30 (0, 0))) :
  SeqStopsK Fence.wide d Tryz.prog 167 #[.pointer (some ⟨bt, 0, none⟩)] (fun x : { x : Nat // x ∈ whoT mask } => #[Value.int .i64 (x.1 : Int)]) (But s0 w.heap.size D) (fun ys => ys.map Subtype.val = whoT mask) (fun pre => pre.map Subtype.val <+: whoT mask) (whoT mask).length w := by
 intro lo J Jx W hW hAJ _ hY hJ0
 have hsz : ∀ {k : Nat} {o : Obj}, w.heap[k]? = some o → k < w.heap.size := fun e => (Array.getElem?_eq_some_iff.1 e).1
 have HT : Hid (∀ W', But s0 w.heap.size D w W' → W'.heap[bt]? = some (.cells #[.int .u64 (mask.toNat : Int)] 30 (0, 0))) := fun W' g => g.blk (hsz t0) (by omega) t0
 have HG0 : Hid (But s0 w.heap.size D w W) := But.of_below hW hs0
 have HGZ : Hid (∀ {W1 W' : World}, w.heap.size ≤ W1.heap.size → But s0 w.heap.size D w W1 → Below W1.heap.size W1 W' → But s0 w.heap.size D w W') := fun hs g k => g.then k hs0 hs
 have HBT : Hid (∀ {A B C : World}, But s0 w.heap.size D A B → But s0 w.heap.size D B C → But s0 w.heap.size D A C) := fun h k => h.trans k
 have HWs : Hid (w.heap.size ≤ W.heap.size) := hW.size
 have HBS : Hid (∀ W', But s0 w.heap.size D w W' → w.heap.size ≤ W'.heap.size) := fun W' g => by
  have := (Array.getElem?_eq_some_iff.1 t0).1
  exact Nat.le_of_not_lt fun hlt => by
   by_cases e : w.heap.size - 1 = D
   ·
    omega
   ·
    have k := g.block (w.heap.size - 1) (by omega) e
    rw [Array.getElem?_eq_none (by omega), Array.getElem?_eq_getElem (by omega)] at k
    cases k
 have HAJ : Hid (∀ pre W1 W', J pre W1 → Below W1.heap.size W1 W' → J pre W') := fun pre W1 W' hj g => hAJ pre W1 W' none hj (zbw g) (fun r e => by cases e)
 have HY := Lib.hid hY
 have HJ0 := Lib.hid hJ0
 have HB := Lib.hid (fun (v : Int) W => zna v W)
 have HM : Hid (∀ j : Nat, j < 64 → bits .and .u64 (mask.toNat : Int) (bitN (j : Int) : Int) = ((mask.toNat &&& 2 ^ j : Nat) : Int)) := fun j h => yb5 mask h
 have HH : Hid (∀ j : Nat, (((mask.toNat &&& 2 ^ j : Nat) : Int) != 0) = hasB mask j) := fun j => ygs mask j
 clear hsz hY hJ0 hW hAJ t0 hDb hs0
 obtain ⟨m, hm⟩ : ∃ m, m = (mask.toNat : Int) := ⟨_, rfl⟩
 rw [← hm] at HT HM
 clear hm
 generalize But s0 w.heap.size D = BU at *
 have hmix : Tryz.prog.follows .mixedOrders = true := by kernel_rfl
 refine callsIn_of_wp Tryz.func167 rfl trivial ?_ rfl
 simp only [Tryz.ntmps167, List.size_toArray, List.length_cons, List.length_nil, Nat.reduceAdd, Nat.reduceSub, Array.replicate_succ, Array.replicate_zero, List.push_toArray, List.append_toArray, List.nil_append, List.cons_append]
 gi_wp2
 gi_loopw [4] (fun v wr => ∃ (pre : List { x : Nat // x ∈ whoT mask }) (j : Nat), v = .int .i64 (j : Int) ∧ j ≤ 64 ∧ pre.map Subtype.val = upT mask j ∧ BU w wr ∧ J pre wr) (fun v _ => 64 - (intOf v).toNat)
 case atStart => exact ⟨[], 0, rfl, Nat.zero_le _, rfl, HG0.out, HJ0.out⟩
 case round =>
  obtain ⟨pre, j, rfl, hj, hpre, hg, hjj⟩ := hrel
  have HG := Lib.hid hg
  have HJ := Lib.hid hjj
  have HE := Lib.hid hpre
  clear hg hjj hpre
  by_cases hlt : j < 64
  ·
   have d0 : decide ((j : Int) < 64) = true := decide_eq_true (by omega)
   have d0' : decide (j < 64) = true := decide_eq_true hlt
   have u1 : (j : Int) + 1 < 10000 := by omega
   have HLT := Lib.hid hlt
   obtain ⟨r, hr⟩ : ∃ r, r = hasB mask j := ⟨_, rfl⟩
   obtain ⟨x, hx⟩ : ∃ x, x = ((mask.toNat &&& 2 ^ j : Nat) : Int) := ⟨_, rfl⟩
   obtain ⟨b, hb⟩ : ∃ b, b = (bitN (j : Int) : Int) := ⟨_, rfl⟩
   have hA := HM.out j hlt
   have hA2 := HH.out j
   have HBj := Lib.hid (fun W => HB.out (j : Int) W)
   rw [← hb, ← hx] at hA
   rw [← hx, ← hr] at hA2
   rw [← hb] at HBj
   have HR := Lib.hid hr
   have z0 := (zao (HT.out _ HG.out)).1
   clear hlt hx hb hr
   cases r
   ·
    gi_wp2
    refine wpIn_region_any (by kernel_rfl) ?_
    try (change wpAnyIn _ _ _ _ _ _ _ _ _ (World.drew _))
    refine wpAnyIn_take (i := 1) (v := ?_) rfl rfl (by kernel_rfl) (by kernel_rfl) (by kernel_rfl) (fun _ _ _ h => h) ⟨Or.inl ⟨by rfl, ?_⟩, fun _ => rfl⟩ ?_
    case refine_2 => intro w; go_simp; rfl
    refine wpAnyIn_ready (rs := [0, 2]) (by kernel_rfl) (by simp) ?_
    refine AllReadyIn.cons rfl (fun K hK => ?_) (AllReadyIn.cons rfl (fun K hK => ?_) AllReadyIn.nil)
    ·
     go_simp
     refine hK _ _ ?_
     clear hK K
     refine wpAnyIn_ready (rs := [2]) (by kernel_rfl) (by simp) (AllReadyIn.cons rfl (fun K hK => ?_) AllReadyIn.nil)
     go_simp
     refine ⟨trivial, (callsIn_wide.2 (HBj.out _)).mono ?_⟩
     rintro e W1 ⟨rfl, g1⟩
     have HG1 := Lib.hid (HGZ.out (HBS.out _ HG.out) HG.out (zad (zap (Below.refl _ _) 1) g1))
     have HJ1 := Lib.hid (HAJ.out _ _ _ HJ.out (zad (zap (Below.refl _ _) 1) g1))
     clear g1
     refine hK _ _ ?_
     clear hK K z0
     refine wpAnyIn_take (i := 3) (v := ?_) rfl rfl (by kernel_rfl) (by kernel_rfl) (by kernel_rfl) (fun _ _ _ h => h) ⟨Or.inl ⟨by rfl, ?_⟩, fun _ => rfl⟩ ?_
     case refine_2 => intro w; go_simp; rfl
     refine wpAnyIn_take (i := 4) (v := ?_) rfl rfl (by kernel_rfl) (by kernel_rfl) (by kernel_rfl) (fun _ _ _ h => h) ⟨Or.inl ⟨by rfl, ?_⟩, fun _ => rfl⟩ ?_
     case refine_2 => intro w; go_simp; rfl
     refine wpAnyIn_take (i := 5) (v := ?_) rfl rfl (by kernel_rfl) (by kernel_rfl) (by kernel_rfl) (fun _ _ _ h => h) ⟨Or.inl ⟨by rfl, ?_⟩, fun _ => rfl⟩ ?_
     case refine_2 => intro w; go_simp; rfl
     refine wpAnyIn_take (i := 6) (v := undef) rfl rfl (by kernel_rfl) (by kernel_rfl) (by kernel_rfl) (fun _ _ _ h => h) ⟨Or.inr ⟨by rfl, rfl⟩, fun _ => rfl⟩ ?_
     refine wpAnyIn_take (i := 7) (v := undef) rfl rfl (by kernel_rfl) (by kernel_rfl) (by kernel_rfl) (fun _ _ _ h => h) ⟨Or.inr ⟨by rfl, rfl⟩, fun _ => rfl⟩ ?_
     refine wpAnyIn_ready (rs := [8]) (by kernel_rfl) (by simp) (AllReadyIn.cons rfl (fun K hK => ?_) AllReadyIn.nil)
     go_simp
     refine ⟨fun _ _ => trivial, ?_⟩
     refine hK _ _ ?_
     clear hK K
     refine wpAnyIn_take (i := 9) (v := undef) rfl rfl (by kernel_rfl) (by kernel_rfl) (by kernel_rfl) (fun _ _ _ h => h) ⟨Or.inr ⟨by rfl, rfl⟩, fun _ => rfl⟩ ?_
     refine wpAnyIn_take (i := 10) (v := ?_) rfl rfl (by kernel_rfl) (by kernel_rfl) (by kernel_rfl) (fun _ _ _ h => h) ⟨Or.inl ⟨by rfl, ?_⟩, fun _ => rfl⟩ ?_
     case refine_2 => intro w; go_simp; rfl
     refine wpAnyIn_done (by kernel_rfl) ?_ _
     gi_wp2
     go_roundw
     case rel => exact ⟨pre, j + 1, by go_num, HLT.out, by rw [yev HR.out.symm]; exact HE.out, HG1.out, HJ1.out⟩
     case measure => simp [intOf]; have := HLT.out; omega
    ·
     go_simp
     refine ⟨trivial, (callsIn_wide.2 (HBj.out _)).mono ?_⟩
     rintro e W1 ⟨rfl, g1⟩
     have HG1 := Lib.hid (HGZ.out (HBS.out _ HG.out) HG.out (zad (zap (Below.refl _ _) 1) g1))
     have HJ1 := Lib.hid (HAJ.out _ _ _ HJ.out (zad (zap (Below.refl _ _) 1) g1))
     have z1 := (zao (HT.out _ HG1.out)).1
     clear g1
     refine hK _ _ ?_
     clear hK K z0
     refine wpAnyIn_ready (rs := [0]) (by kernel_rfl) (by simp) (AllReadyIn.cons rfl (fun K hK => ?_) AllReadyIn.nil)
     go_simp
     refine hK _ _ ?_
     clear hK K z1
     refine wpAnyIn_take (i := 3) (v := ?_) rfl rfl (by kernel_rfl) (by kernel_rfl) (by kernel_rfl) (fun _ _ _ h => h) ⟨Or.inl ⟨by rfl, ?_⟩, fun _ => rfl⟩ ?_
     case refine_2 => intro w; go_simp; rfl
     refine wpAnyIn_take (i := 4) (v := ?_) rfl rfl (by kernel_rfl) (by kernel_rfl) (by kernel_rfl) (fun _ _ _ h => h) ⟨Or.inl ⟨by rfl, ?_⟩, fun _ => rfl⟩ ?_
     case refine_2 => intro w; go_simp; rfl
     refine wpAnyIn_take (i := 5) (v := ?_) rfl rfl (by kernel_rfl) (by kernel_rfl) (by kernel_rfl) (fun _ _ _ h => h) ⟨Or.inl ⟨by rfl, ?_⟩, fun _ => rfl⟩ ?_
     case refine_2 => intro w; go_simp; rfl
     refine wpAnyIn_take (i := 6) (v := undef) rfl rfl (by kernel_rfl) (by kernel_rfl) (by kernel_rfl) (fun _ _ _ h => h) ⟨Or.inr ⟨by rfl, rfl⟩, fun _ => rfl⟩ ?_
     refine wpAnyIn_take (i := 7) (v := undef) rfl rfl (by kernel_rfl) (by kernel_rfl) (by kernel_rfl) (fun _ _ _ h => h) ⟨Or.inr ⟨by rfl, rfl⟩, fun _ => rfl⟩ ?_
     refine wpAnyIn_ready (rs := [8]) (by kernel_rfl) (by simp) (AllReadyIn.cons rfl (fun K hK => ?_) AllReadyIn.nil)
     go_simp
     refine ⟨fun _ _ => trivial, ?_⟩
     refine hK _ _ ?_
     clear hK K
     refine wpAnyIn_take (i := 9) (v := undef) rfl rfl (by kernel_rfl) (by kernel_rfl) (by kernel_rfl) (fun _ _ _ h => h) ⟨Or.inr ⟨by rfl, rfl⟩, fun _ => rfl⟩ ?_
     refine wpAnyIn_take (i := 10) (v := ?_) rfl rfl (by kernel_rfl) (by kernel_rfl) (by kernel_rfl) (fun _ _ _ h => h) ⟨Or.inl ⟨by rfl, ?_⟩, fun _ => rfl⟩ ?_
     case refine_2 => intro w; go_simp; rfl
     refine wpAnyIn_done (by kernel_rfl) ?_ _
     gi_wp2
     go_roundw
     case rel => exact ⟨pre, j + 1, by go_num, HLT.out, by rw [yev HR.out.symm]; exact HE.out, HG1.out, HJ1.out⟩
     case measure => simp [intOf]; have := HLT.out; omega
   ·
    have HIN : Hid (j ∈ whoT mask) := yrj.2 ⟨HLT.out, HR.out.symm⟩
    have HUP : Hid (upT mask (j + 1) = upT mask j ++ [j]) := ygz HR.out.symm
    have HLN : Hid (pre.length < (whoT mask).length) := by
     show pre.length < _
     have h1 := (z4t (mask := mask) (n := j + 1) HLT.out).length_le
     have h2 := congrArg List.length HE.out
     rw [List.length_map] at h2
     rw [HUP.out, List.length_append, ← h2] at h1
     exact h1
    gi_wp2
    refine wpIn_region_any (by kernel_rfl) ?_
    try (change wpAnyIn _ _ _ _ _ _ _ _ _ (World.drew _))
    refine wpAnyIn_take (i := 1) (v := ?_) rfl rfl (by kernel_rfl) (by kernel_rfl) (by kernel_rfl) (fun _ _ _ h => h) ⟨Or.inl ⟨by rfl, ?_⟩, fun _ => rfl⟩ ?_
    case refine_2 => intro w; go_simp; rfl
    refine wpAnyIn_ready (rs := [0, 2]) (by kernel_rfl) (by simp) ?_
    refine AllReadyIn.cons rfl (fun K hK => ?_) (AllReadyIn.cons rfl (fun K hK => ?_) AllReadyIn.nil)
    ·
     go_simp
     refine hK _ _ ?_
     clear hK K
     refine wpAnyIn_ready (rs := [2]) (by kernel_rfl) (by simp) (AllReadyIn.cons rfl (fun K hK => ?_) AllReadyIn.nil)
     go_simp
     refine ⟨trivial, (callsIn_wide.2 (HBj.out _)).mono ?_⟩
     rintro e W1 ⟨rfl, g1⟩
     have HG1 := Lib.hid (HGZ.out (HBS.out _ HG.out) HG.out (zad (zap (Below.refl _ _) 1) g1))
     have HJ1 := Lib.hid (HAJ.out _ _ _ HJ.out (zad (zap (Below.refl _ _) 1) g1))
     clear g1
     obtain ⟨fn, tmps, assign, body, hy, hR⟩ := HY.out pre ⟨j, HIN.out⟩ W1 HJ1.out HLN.out
     have HRR := Lib.hid hR
     clear hR
     refine hK _ _ ?_
     clear hK K z0
     refine wpAnyIn_take (i := 3) (v := ?_) rfl rfl (by kernel_rfl) (by kernel_rfl) (by kernel_rfl) (fun _ _ _ h => h) ⟨Or.inl ⟨by rfl, ?_⟩, fun _ => rfl⟩ ?_
     case refine_2 => intro w; go_simp; rfl
     refine wpAnyIn_take (i := 4) (v := ?_) rfl rfl (by kernel_rfl) (by kernel_rfl) (by kernel_rfl) (fun _ _ _ h => h) ⟨Or.inl ⟨by rfl, ?_⟩, fun _ => rfl⟩ ?_
     case refine_2 => intro w; go_simp; rfl
     refine wpAnyIn_take (i := 5) (v := ?_) rfl rfl (by kernel_rfl) (by kernel_rfl) (by kernel_rfl) (fun _ _ _ h => h) ⟨Or.inl ⟨by rfl, ?_⟩, fun _ => rfl⟩ ?_
     case refine_2 => intro w; go_simp; rfl
     refine wpAnyIn_take (i := 6) (v := ?_) rfl rfl (by kernel_rfl) (by kernel_rfl) (by kernel_rfl) (fun _ _ _ h => h) ⟨Or.inl ⟨by rfl, ?_⟩, fun _ => rfl⟩ ?_
     case refine_2 => intro w; go_simp; rfl
     refine wpAnyIn_take (i := 7) (v := ?_) rfl rfl (by kernel_rfl) (by kernel_rfl) (by kernel_rfl) (fun _ _ _ h => h) ⟨Or.inl ⟨by rfl, ?_⟩, fun _ => rfl⟩ ?_
     case refine_2 => intro w; go_simp; rfl
     refine wpAnyIn_ready (rs := [8]) (by kernel_rfl) (by simp) (AllReadyIn.cons rfl (fun K hK => ?_) AllReadyIn.nil)
     go_simp
     refine HRR.out.mono ?_
     rintro e W3 (⟨rfl, hJ3, hk3⟩ | ⟨rfl, hJx3⟩)
     ·
      have HG3 := Lib.hid (HBT.out HG1.out hk3)
      have HJ3 := Lib.hid hJ3
      clear hJ3 hk3
      refine hK _ _ ?_
      clear hK K
      refine wpAnyIn_take (i := 9) (v := ?_) rfl rfl (by kernel_rfl) (by kernel_rfl) (by kernel_rfl) (fun _ _ _ h => h) ⟨Or.inl ⟨by rfl, ?_⟩, fun _ => rfl⟩ ?_
      case refine_2 => intro w; go_simp; rfl
      refine wpAnyIn_take (i := 10) (v := ?_) rfl rfl (by kernel_rfl) (by kernel_rfl) (by kernel_rfl) (fun _ _ _ h => h) ⟨Or.inl ⟨by rfl, ?_⟩, fun _ => rfl⟩ ?_
      case refine_2 => intro w; go_simp; rfl
      refine wpAnyIn_done (by kernel_rfl) ?_ _
      gi_wp2
      go_roundw
      case rel => exact ⟨pre ++ [⟨j, HIN.out⟩], j + 1, by go_num, HLT.out, by rw [HUP.out, List.map_append, HE.out]; rfl, HG3.out, HJ3.out⟩
      case measure => simp [intOf]; have := HLT.out; omega
     ·
      have HJ3 := Lib.hid hJx3
      clear hJx3
      refine hK _ _ ?_
      clear hK K
      refine wpAnyIn_take (i := 9) (v := ?_) rfl rfl (by kernel_rfl) (by kernel_rfl) (by kernel_rfl) (fun _ _ _ h => h) ⟨Or.inl ⟨by rfl, ?_⟩, fun _ => rfl⟩ ?_
      case refine_2 => intro w; go_simp; rfl
      refine wpAnyIn_take (i := 10) (v := ?_) rfl rfl (by kernel_rfl) (by kernel_rfl) (by kernel_rfl) (fun _ _ _ h => h) ⟨Or.inl ⟨by rfl, ?_⟩, fun _ => rfl⟩ ?_
      case refine_2 => intro w; go_simp; rfl
      refine wpAnyIn_done (by kernel_rfl) ?_ _
      gi_wp2
      refine bodyPost_ret (results_none rfl _ _ _) rfl ?_
      exact ⟨⟨_, rfl⟩, .inr ⟨pre ++ [⟨j, HIN.out⟩], by show List.map Subtype.val _ <+: _; rw [List.map_append, HE.out]; exact HUP.out ▸ z4t (mask := mask) (n := j + 1) HLT.out, HJ3.out⟩⟩
    ·
     go_simp
     refine ⟨trivial, (callsIn_wide.2 (HBj.out _)).mono ?_⟩
     rintro e W1 ⟨rfl, g1⟩
     have HG1 := Lib.hid (HGZ.out (HBS.out _ HG.out) HG.out (zad (zap (Below.refl _ _) 1) g1))
     have HJ1 := Lib.hid (HAJ.out _ _ _ HJ.out (zad (zap (Below.refl _ _) 1) g1))
     have z1 := (zao (HT.out _ HG1.out)).1
     clear g1
     obtain ⟨fn, tmps, assign, body, hy, hR⟩ := HY.out pre ⟨j, HIN.out⟩ W1 HJ1.out HLN.out
     have HRR := Lib.hid hR
     clear hR
     refine hK _ _ ?_
     clear hK K z0
     refine wpAnyIn_ready (rs := [0]) (by kernel_rfl) (by simp) (AllReadyIn.cons rfl (fun K hK => ?_) AllReadyIn.nil)
     go_simp
     refine hK _ _ ?_
     clear hK K z1
     refine wpAnyIn_take (i := 3) (v := ?_) rfl rfl (by kernel_rfl) (by kernel_rfl) (by kernel_rfl) (fun _ _ _ h => h) ⟨Or.inl ⟨by rfl, ?_⟩, fun _ => rfl⟩ ?_
     case refine_2 => intro w; go_simp; rfl
     refine wpAnyIn_take (i := 4) (v := ?_) rfl rfl (by kernel_rfl) (by kernel_rfl) (by kernel_rfl) (fun _ _ _ h => h) ⟨Or.inl ⟨by rfl, ?_⟩, fun _ => rfl⟩ ?_
     case refine_2 => intro w; go_simp; rfl
     refine wpAnyIn_take (i := 5) (v := ?_) rfl rfl (by kernel_rfl) (by kernel_rfl) (by kernel_rfl) (fun _ _ _ h => h) ⟨Or.inl ⟨by rfl, ?_⟩, fun _ => rfl⟩ ?_
     case refine_2 => intro w; go_simp; rfl
     refine wpAnyIn_take (i := 6) (v := ?_) rfl rfl (by kernel_rfl) (by kernel_rfl) (by kernel_rfl) (fun _ _ _ h => h) ⟨Or.inl ⟨by rfl, ?_⟩, fun _ => rfl⟩ ?_
     case refine_2 => intro w; go_simp; rfl
     refine wpAnyIn_take (i := 7) (v := ?_) rfl rfl (by kernel_rfl) (by kernel_rfl) (by kernel_rfl) (fun _ _ _ h => h) ⟨Or.inl ⟨by rfl, ?_⟩, fun _ => rfl⟩ ?_
     case refine_2 => intro w; go_simp; rfl
     refine wpAnyIn_ready (rs := [8]) (by kernel_rfl) (by simp) (AllReadyIn.cons rfl (fun K hK => ?_) AllReadyIn.nil)
     go_simp
     refine HRR.out.mono ?_
     rintro e W3 (⟨rfl, hJ3, hk3⟩ | ⟨rfl, hJx3⟩)
     ·
      have HG3 := Lib.hid (HBT.out HG1.out hk3)
      have HJ3 := Lib.hid hJ3
      clear hJ3 hk3
      refine hK _ _ ?_
      clear hK K
      refine wpAnyIn_take (i := 9) (v := ?_) rfl rfl (by kernel_rfl) (by kernel_rfl) (by kernel_rfl) (fun _ _ _ h => h) ⟨Or.inl ⟨by rfl, ?_⟩, fun _ => rfl⟩ ?_
      case refine_2 => intro w; go_simp; rfl
      refine wpAnyIn_take (i := 10) (v := ?_) rfl rfl (by kernel_rfl) (by kernel_rfl) (by kernel_rfl) (fun _ _ _ h => h) ⟨Or.inl ⟨by rfl, ?_⟩, fun _ => rfl⟩ ?_
      case refine_2 => intro w; go_simp; rfl
      refine wpAnyIn_done (by kernel_rfl) ?_ _
      gi_wp2
      go_roundw
      case rel => exact ⟨pre ++ [⟨j, HIN.out⟩], j + 1, by go_num, HLT.out, by rw [HUP.out, List.map_append, HE.out]; rfl, HG3.out, HJ3.out⟩
      case measure => simp [intOf]; have := HLT.out; omega
     ·
      have HJ3 := Lib.hid hJx3
      clear hJx3
      refine hK _ _ ?_
      clear hK K
      refine wpAnyIn_take (i := 9) (v := ?_) rfl rfl (by kernel_rfl) (by kernel_rfl) (by kernel_rfl) (fun _ _ _ h => h) ⟨Or.inl ⟨by rfl, ?_⟩, fun _ => rfl⟩ ?_
      case refine_2 => intro w; go_simp; rfl
      refine wpAnyIn_take (i := 10) (v := ?_) rfl rfl (by kernel_rfl) (by kernel_rfl) (by kernel_rfl) (fun _ _ _ h => h) ⟨Or.inl ⟨by rfl, ?_⟩, fun _ => rfl⟩ ?_
      case refine_2 => intro w; go_simp; rfl
      refine wpAnyIn_done (by kernel_rfl) ?_ _
      gi_wp2
      refine bodyPost_ret (results_none rfl _ _ _) rfl ?_
      exact ⟨⟨_, rfl⟩, .inr ⟨pre ++ [⟨j, HIN.out⟩], by show List.map Subtype.val _ <+: _; rw [List.map_append, HE.out]; exact HUP.out ▸ z4t (mask := mask) (n := j + 1) HLT.out, HJ3.out⟩⟩
  ·
   obtain rfl : j = 64 := by omega
   clear hlt
   gi_wp2
   go_end0
   exact ⟨⟨_, rfl⟩, .inl ⟨pre, HE.out, HJ.out⟩⟩
end
theorem ybf (mask : UInt64) : (whoT mask).Pairwise (· < ·) := by unfold whoT; exact List.Pairwise.filter _ List.pairwise_lt_range
theorem ymf (mask : UInt64) : (whoT mask).length ≤ 64 := by
 unfold whoT
 have := List.length_filter_le (hasB mask) (List.range 64)
 rwa [List.length_range] at this
def yyb : Prop := ∀ (v : Value) (l : List UInt64) (m : UInt64) (w : World), SlE Enum w v l → Calls Tryz.prog 158 #[v, .int .u64 (m.toNat : Int)] w fun e w' => e = .returned (.int .u64 (ofS l m : Int)) ∧ Below w.heap.size w w'
def ymo : Prop := ∀ (v : Value) (l : List UInt64) (w : World), SlE Enum w v l → Calls Tryz.prog 159 #[v] w fun e w' => e = .returned (.int .u64 (totS l : Int)) ∧ Below w.heap.size w w'
section
open Go.Shelf
attribute [local go_sem] Oper.semAt_some
def sumV (f : Nat → Nat) (n : Nat) (ks : List Nat) : Nat := ((ks.filter fun v => decide (v < n)).map f).sum
theorem ykj {f : Nat → Nat} {n : Nat} (ks : List Nat) {v : Nat} (h : v < n) : sumV f n (ks ++ [v]) = sumV f n ks + f v := by unfold sumV; rw [List.filter_append]; simp [h]
theorem z4d {f : Nat → Nat} {n : Nat} (ks : List Nat) {v : Nat} (h : n ≤ v) : sumV f n (ks ++ [v]) = sumV f n ks := by
 unfold sumV; rw [List.filter_append]; simp [show ¬ v < n by omega]
theorem yqa {f : Nat → Nat} {n B : Nat} (h : ∀ v, v < n → f v ≤ B) (ks : List Nat) : sumV f n ks ≤ ks.length * B := by
 induction ks with
 | nil => simp [sumV]
 | cons k ks ih =>
  have e : sumV f n (k :: ks) ≤ B + sumV f n ks := by
   unfold sumV
   by_cases hk : k < n
   ·
    rw [List.filter_cons_of_pos (by simp [hk]), List.map_cons, List.sum_cons]; have := h k hk; omega
   ·
    rw [List.filter_cons_of_neg (by simp [hk])]; omega
  rw [List.length_cons, Nat.add_mul, Nat.one_mul]
  omega
theorem yq7 {f : Nat → Nat} {n : Nat} (h : ∀ v, v < n → f v ≤ 1099511627776) {ks : List Nat} (hk : ks.length ≤ 64) : sumV f n ks ≤ 70368744177664 := by
 have h1 := yqa h ks
 omega
theorem ycs {f : Nat → Nat} {n : Nat} {L ys : List Nat} {x : Nat} (hs : L.Pairwise (· < ·)) (hp : ys ++ [x] <+: L) (hx : n ≤ x) : sumV f n L = sumV f n ys := by
 obtain ⟨t, rfl⟩ := hp
 have ht : t.filter (fun v => decide (v < n)) = [] := by
  rw [List.filter_eq_nil_iff]
  intro y hy
  rw [List.append_assoc] at hs
  have h2 := (List.pairwise_append.1 hs).2.1
  rw [List.singleton_append, List.pairwise_cons] at h2
  have := h2.1 y hy
  simp; omega
 have e : sumV f n (ys ++ [x] ++ t) = sumV f n (ys ++ [x]) := by unfold sumV; rw [List.filter_append, ht, List.append_nil]
 rw [e, z4d _ hx]
theorem z98 (p : Option Addr) (n cp : Nat) (l : List UInt64) (m : Int) (w : World) (h : SlE Enum w (.slice p n cp) l) (hl : l.length = n) (hm : mayB l = false) :
  Calls Tryz.prog 158 #[.slice p n cp, .int .u64 m] w fun e w' => e = .returned (.int .u64 0) ∧ Below w.heap.size w w' := by
 have HMy : Hid (∀ W, Below w.heap.size w W → Calls Tryz.prog 31 #[.slice p n cp] W fun e w' => e = .returned (.bool false) ∧ Below W.heap.size W w') := fun W g => by
  have := zo8 p n cp l W (zac g h) hl
  rwa [hm] at this
 obtain ⟨W0, hW0⟩ : ∃ W0, W0 = w.alloc (.cells #[.slice p n cp] 24) := ⟨_, rfl⟩
 have HB : Hid (Below w.heap.size w W0) := by rw [hW0]; exact below1
 have HW := Lib.hid hW0
 clear hW0 h hl hm
 go_enter Tryz.func158, Tryz.ntmps158
 go_wp2_with fail
 rw [← HW.out]
 refine (HMy.out W0 HB.out).mono ?_
 rintro e w1 ⟨rfl, g1⟩
 have G1 := Lib.hid (zad HB.out g1)
 clear g1
 go_wp2_with fail
 go_ret
 exact ⟨rfl, G1.out⟩
theorem z3k (p : Option Addr) (n cp : Nat) (l : List UInt64) (mask : UInt64) (w : World) (h : SlE Enum w (.slice p n cp) l) (hl : l.length = n) (hmay : mayB l = true) :
  Calls Tryz.prog 158 #[.slice p n cp, .int .u64 (mask.toNat : Int)] w fun e w' => e = .returned (.int .u64 (ofS l mask : Int)) ∧ Below w.heap.size w w' := by
 have HMy : Hid (∀ W, Below w.heap.size w W → Calls Tryz.prog 31 #[.slice p n cp] W fun e w' => e = .returned (.bool true) ∧ Below W.heap.size W w') := fun W g => by
  have := zo8 p n cp l W (zac g h) hl
  rwa [hmay] at this
 have HS := Lib.hid h
 have HL := Lib.hid hl
 obtain ⟨z, hz⟩ : ∃ z, z = ofS l mask := ⟨_, rfl⟩
 obtain ⟨_, h2, h3⟩ := zfl.1 hmay
 have HX1 : Hid (z = sumV (fn l) n (whoT mask)) := by
  show z = _
  rw [hz, yc4 hmay, hl]
  exact (yv8 (fn l) mask (by omega)).symm
 have HX2 : Hid (∀ v, v < n → fn l v ≤ 1099511627776) := fun v hv => h3 v (by omega)
 have HX3 : Hid (n ≤ 8) := by show n ≤ 8; omega
 rw [← hz]
 obtain ⟨W0, hW0⟩ : ∃ W0, W0 = w.alloc (.cells #[.slice p n cp] 24) := ⟨_, rfl⟩
 have HB : Hid (Below w.heap.size w W0) := by rw [hW0]; exact below1
 have M0 : Hid (W0.heap[w.heap.size]? = some (.cells #[.slice p n cp] 24 (0, 0))) := by rw [hW0]; exact heap_alloc_last w _
 have HW := Lib.hid hW0
 have HE : Hid (∀ W, Calls Tryz.prog 165 #[.int .u64 (mask.toNat : Int)] W fun e w' => e = .returned (.func (.func 167) #[] #[.pointer (some ⟨W.heap.size, 0, none⟩)]) ∧ w' = W.alloc (.cells #[.int .u64 (mask.toNat : Int)] 30)) := fun W => yhf _ W
 have HD := Lib.hid (fun (w2 : World) (s0 D bt : Nat) (hs0 : s0 ≤ w2.heap.size) (hDb : D < bt) t0 => ybx 2 (by omega) mask s0 D bt w2 hs0 hDb t0)
 obtain ⟨m, hm⟩ : ∃ m, m = (mask.toNat : Int) := ⟨_, rfl⟩
 rw [← hm] at HE HD
 rw [← hm]
 clear hW0 h hl hz hm hmay h2 h3
 refine callsIn_wide.1 (callsIn_of_wp_marks (n := 3) Tryz.func158 rfl trivial (wpIn_wide.2 ?_))
 simp only [Tryz.ntmps158, List.size_toArray, List.length_cons, List.length_nil, Nat.reduceAdd, Nat.reduceSub, Array.replicate_succ, Array.replicate_zero, List.push_toArray, List.append_toArray, List.nil_append, List.cons_append]
 go_wp2_with fail
 rw [← HW.out]
 refine (HMy.out W0 HB.out).mono ?_
 rintro e w1 ⟨rfl, g1⟩
 have G1 := Lib.hid (zad HB.out g1)
 have M1 := Lib.hid (zab g1 M0.out)
 clear g1
 obtain ⟨W1, hW1⟩ : ∃ W1, W1 = w1.alloc (.cells #[.int .u64 0] 30) := ⟨_, rfl⟩
 have HB1 : Hid (Below w1.heap.size w1 W1) := by rw [hW1]; exact below1
 have M2 : Hid (W1.heap[w1.heap.size]? = some (.cells #[.int .u64 0] 30 (0, 0))) := by rw [hW1]; exact heap_alloc_last w1 _
 have HZ1 : Hid (W1.heap.size = w1.heap.size + 1) := by show _ = _; rw [hW1]; simp
 have HW1 := Lib.hid hW1
 clear hW1
 go_wp2_with fail
 rw [← HW1.out]
 refine (HE.out W1).mono ?_
 rintro e w2 ⟨rfl, hw2⟩
 have hB2 : Below W1.heap.size W1 w2 := by rw [hw2]; exact below1
 have t0 : w2.heap[W1.heap.size]? = some (.cells #[.int .u64 m] 30 (0, 0)) := by rw [hw2]; exact heap_alloc_last W1 _
 have hz2 : w2.heap.size = W1.heap.size + 1 := by rw [hw2]; simp
 have HBw : Hid (Below w.heap.size w w2) := zad G1.out (zad HB1.out hB2)
 have HSZ : Hid (w.heap.size < w1.heap.size ∧ w1.heap.size < W1.heap.size ∧ W1.heap.size < w2.heap.size) := by
  have h1 := (Array.getElem?_eq_some_iff.1 M1.out).1
  show _ ∧ _
  have := HZ1.out
  omega
 have HDn := Lib.hid (HD.out w2 w.heap.size w1.heap.size W1.heap.size (by have := HSZ.out; omega) (by have := HSZ.out; omega) t0)
 have HKb : Hid (w2.heap[w.heap.size]? = some (.cells #[.slice p n cp] 24 (0, 0))) := zab (zad HB1.out hB2) M1.out
 have HKs : Hid (w2.heap[w1.heap.size]? = some (.cells #[.int .u64 0] 30 (0, 0))) := zab hB2 M2.out
 clear hw2 hB2 t0 hz2 HD HE
 go_wp2_with fail
 refine (wpIn_wide (n := 3)).1 ?_
 have HN : Hid ((whoT mask).length ≤ 64) := ymf mask
 refine wpIn_rangeFunc_ownF (w0 := w2) rfl (by omega) (gf := 167) (lb := #[.pointer (some ⟨W1.heap.size, 0, none⟩)]) rfl trivial (zbb Tryz.func167 (by kernel_rfl) (by kernel_rfl))
  HDn.out yfg (yeb (by have := HSZ.out; omega) (Nat.le_refl _)) (Below.refl _ _) (fun _ => rfl)
  (fun pre W => W.heap[w1.heap.size]? = some (.cells #[.int .u64 (sumV (fn l) n (pre.map Subtype.val) : Int)] 30 (0, 0)) ∧ But w.heap.size w2.heap.size w1.heap.size w2 W)
  (fun c pre W => W.heap[w1.heap.size]? = some (.cells #[.int .u64 (sumV (fn l) n (pre.map Subtype.val) : Int)] 30 (0, 0)) ∧ But w.heap.size w2.heap.size w1.heap.size w2 W ∧ (c = .exit 0 ∧ ∃ ys x, pre.map Subtype.val = ys ++ [x] ∧ n ≤ x))
  (OwnFrom.and (ygv _ (by have := HSZ.out; omega)) (But.own (Nat.le_refl _) (Nat.le_refl _) (by have := HSZ.out; omega)))
  (fun c => OwnFrom.and (ygv _ (by have := HSZ.out; omega)) (OwnFrom.and (But.own (Nat.le_refl _) (Nat.le_refl _) (by have := HSZ.out; omega)) (fun _ _ _ _ h _ _ => h)))
  ⟨HKs.out, But.refl _ _ _ _⟩ ?a1 ?assign ?body ?done ?stop
 case assign =>
  intro lo x W K hK
  gi_wp2
  exact hK
 case body =>
  rintro lo pre x W ⟨hp, hB⟩ hlen
  obtain ⟨k, hk⟩ := x
  have HP := Lib.hid hp
  have HBW := Lib.hid hB
  have HBB : Hid (W.heap[w.heap.size]? = some (.cells #[.slice p n cp] 24 (0, 0))) := hB.blk (by have := HSZ.out; omega) (by have := HSZ.out; omega) HKb.out
  have HSL : Hid (SlE Enum W (.slice p n cp) l) := zac (HBw.out.trans hB.below) HS.out
  obtain ⟨c1, c2⟩ := zao hp
  have b1 := (zao HBB.out).1
  by_cases hkn : k < n
  ·
   have a0 : decide ((n : Int) ≤ (k : Int)) = false := decide_eq_false (by omega)
   have a0' : decide (n ≤ k) = false := decide_eq_false (by omega)
   have i0 : (0 : Int) ≤ (k : Int) := by omega
   have i1 : (k : Int) < (n : Int) := by omega
   have HE2 : Hid (sumV (fn l) n ((pre ++ [(⟨k, hk⟩ : { x : Nat // x ∈ whoT mask })]).map Subtype.val) = sumV (fn l) n (pre.map Subtype.val) + fn l k) := by
    show _ = _
    rw [List.map_append, List.map_cons, List.map_nil, ykj _ hkn]
   have hs1 : sumV (fn l) n (pre.map Subtype.val) ≤ 70368744177664 := yq7 HX2.out (by rw [List.length_map]; have := HN.out; omega)
   have hs2 := HX2.out k hkn
   obtain ⟨b2, o2, rfl, q2, x2⟩ := zcz HSL.out (by have := HL.out; omega)
   have y2 := zca x2 (i := k) (by have := HL.out; omega)
   obtain ⟨s, hs⟩ : ∃ s, s = sumV (fn l) n (pre.map Subtype.val) := ⟨_, rfl⟩
   obtain ⟨y, hy⟩ : ∃ y, y = fn l k := ⟨_, rfl⟩
   rw [← hs] at HP HE2 hs1 c1
   rw [← hy] at y2 hs2 HE2
   have u2 : (s : Int) + (y : Int) < 18446744073709551616 := by omega
   have HU : Hid (IntKind.u64.wrap ((s : Int) + (y : Int)) = ((s + y : Nat) : Int)) := by show _ = _; rw [IntKind.wrap_u64]; omega
   clear hp hB hlen hkn x2 q2 hs hy hs1 hs2 u2
   have hmix : Tryz.prog.follows .mixedOrders = true := by kernel_rfl
   gi_wp2
   gi_region_with_o fail
   all_goals (
    gi_wp2
    rw [HU.out]
    refine ⟨(KeepsOthers.drew W).trans (KeepsOthers.setCell _ _ _), (But.of_below (zap (Below.refl _ _) 1) (by have := HSZ.out; omega)).setCell (by have := HSZ.out; omega) _, ?_, (HBW.out.then (zap (Below.refl _ _) 1) (by have := HSZ.out; omega) HBW.out.below.size).setCell (by have := HSZ.out; omega) _⟩
    show _ = some (Obj.cells #[.int .u64 (sumV (fn l) n ((pre ++ [(⟨k, hk⟩ : { x : Nat // x ∈ whoT mask })]).map Subtype.val) : Int)] 30 (0, 0))
    rw [HE2.out]
    exact yg4 (W := W.drew) HP.out _)
  ·
   have a0 : decide ((n : Int) ≤ (k : Int)) = true := decide_eq_true (by omega)
   have a0' : decide (n ≤ k) = true := decide_eq_true (by omega)
   have HE2 : Hid (sumV (fn l) n ((pre ++ [(⟨k, hk⟩ : { x : Nat // x ∈ whoT mask })]).map Subtype.val) = sumV (fn l) n (pre.map Subtype.val)) := by
    show _ = _
    rw [List.map_append, List.map_cons, List.map_nil, z4d _ (show n ≤ k by omega)]
   have HNK : Hid (n ≤ k) := by show n ≤ k; omega
   clear hp hB hlen hkn
   gi_wp2
   refine ⟨KeepsOthers.refl _, ?_, HBW.out, rfl, pre.map Subtype.val, k, ?_, HNK.out⟩
   ·
    show _ = some (Obj.cells #[.int .u64 (sumV (fn l) n ((pre ++ [(⟨k, hk⟩ : { x : Nat // x ∈ whoT mask })]).map Subtype.val) : Int)] 30 (0, 0))
    rw [HE2.out]
    exact HP.out
   ·
    show ((pre ++ [(⟨k, hk⟩ : { x : Nat // x ∈ whoT mask })]).map Subtype.val) = _
    rw [List.map_append, List.map_cons, List.map_nil]
 case done =>
  rintro D ys W hD hys ⟨hp, hB⟩ hK
  have hX : Hid (sumV (fn l) n (ys.map Subtype.val) = z) := by show _ = z; rw [hys, HX1.out]
  rw [hX.out] at hp
  have c1 := (zao hp).1
  have HBf := Lib.hid (HBw.out.trans hB.below)
  have HKD := Lib.hid hK
  have hDD : Hid (w.heap.size ≤ D) := by show _ ≤ _; have := HSZ.out; omega
  clear hp hB hK hys hD
  go_wp2_with fail
  exact zkc (v := .int .u64 z) HKD.out ⟨by simp [results, Tryz.results158, go_sem], rfl, zeh HKD.out HBf.out hDD.out⟩
 case stop =>
  rintro D c pre W hD hpre ⟨hp, hB, rfl, ys, x, hys, hx⟩ hK
  have hX : Hid (sumV (fn l) n (pre.map Subtype.val) = z) := by
   show _ = z
   rw [hys] at hpre ⊢
   rw [z4d _ hx, HX1.out]
   exact (ycs (ybf mask) hpre hx).symm
  rw [hX.out] at hp
  have c1 := (zao hp).1
  have HBf := Lib.hid (HBw.out.trans hB.below)
  have HKD := Lib.hid hK
  have hDD : Hid (w.heap.size ≤ D) := by show _ ≤ _; have := HSZ.out; omega
  clear hp hB hK hys hD hpre hx
  gi_wp2
  go_wp2_with fail
  exact zkc (v := .int .u64 z) HKD.out ⟨by simp [results, Tryz.results158, go_sem], rfl, zeh HKD.out HBf.out hDD.out⟩
theorem ye7 : yyb := fun v l m w h => by
 have k := h
 obtain ⟨p, cp, rfl, _⟩ := zaj h
 cases e : mayB l
 ·
  have := z98 p _ cp l (m.toNat : Int) w k rfl e
  rwa [yoq e]
 ·
  exact z3k p _ cp l m w k rfl e
theorem z8o : ymo := fun v l w h => by
 have HC := Lib.hid (ye7 v l allM w h)
 rw [show ((allM.toNat : Nat) : Int) = 18446744073709551615 from rfl] at HC
 obtain ⟨t, ht⟩ : ∃ t, t = totS l := ⟨_, rfl⟩
 rw [show ofS l allM = t from ht.symm] at HC
 rw [← ht]
 clear h ht
 go_enter Tryz.func159, Tryz.ntmps159
 go_wp2_with fail
 refine HC.out.mono ?_
 rintro e w1 ⟨rfl, g⟩
 go_wp2_with fail
 go_ret
 exact ⟨rfl, g⟩
end
def yql : Prop := ∀ (v : Value) (l : List UInt64) (m : UInt64) (w : World), SlE Enum w v l → Calls Tryz.prog 151 #[v, .int .u64 (m.toNat : Int)] w fun e w' => e = .returned (.bool (yms l m)) ∧ Below w.heap.size w w'
@[go_sem] theorem yyx (a b c d : Int) (w : World) : (Op.equalIn 10000 212 (.agg #[.int .u64 a, .int .u64 b]) (.agg #[.int .u64 c, .int .u64 d])).run Tryz.prog w = .ok (a == c && b == d) w := by
 have u3 := Tryz.underlying30
 have a3 := Tryz.isAgg30
 have z3 := Tryz.sizeOf30
 rw [show (10000 : Nat) = 9999 + 1 from rfl, Op.equalIn]
 simp only [Sem.run_bind, run_underlying Tryz.underlying212, Result.andThen_ok]
 simp only [Std.Legacy.Range.forIn_eq_forIn_range', Std.Legacy.Range.size, Nat.sub_zero, Nat.add_sub_cancel, Nat.div_one, List.range'_succ, List.range'_zero, List.forIn_cons, List.forIn_nil]
 go_simp
 by_cases h1 : a = c <;> by_cases h2 : b = d <;> simp [h1, h2]
end Go.Proofs.YtmihlihlpdkdcaaGreat
