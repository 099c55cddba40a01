/-
  Blocks, checkpoints and attestations as plain data, and as bytes; no walk.
-/
import Derived.Test.YtjdpndclgmdahaaBytes
namespace Go.Proofs.Ytjdpndclgmdahaa
open Go.RowKit

structure Ck where
  epoch : UInt64
  root : Rt
structure Blk where
  root : Rt
  parent : Rt
  slot : UInt64
  just : UInt64
structure At where
  val : Int
  slot : UInt64
  head : Rt
  source : Ck
  target : Ck
theorem Ck.ext {x y : Ck} (h1 : x.epoch = y.epoch) (h2 : x.root = y.root) : x = y := by cases x; cases y; simp_all
theorem Blk.ext {x y : Blk} (h1 : x.root = y.root) (h2 : x.parent = y.parent) (h3 : x.slot = y.slot) (h4 : x.just = y.just) : x = y := by cases x; cases y; simp_all
theorem At.ext {x y : At} (h1 : x.val = y.val) (h2 : x.slot = y.slot) (h3 : x.head = y.head) (h4 : x.source = y.source) (h5 : x.target = y.target) : x = y := by cases x; cases y; simp_all
instance : DecidableEq Ck := fun x y => decidable_of_iff (x.epoch = y.epoch ∧ x.root = y.root) ⟨fun h => Ck.ext h.1 h.2, fun h => by subst h; exact ⟨rfl, rfl⟩⟩
instance : DecidableEq Blk := fun x y => decidable_of_iff (x.root = y.root ∧ x.parent = y.parent ∧ x.slot = y.slot ∧ x.just = y.just) ⟨fun h => Blk.ext h.1 h.2.1 h.2.2.1 h.2.2.2, fun h => by subst h; exact ⟨rfl, rfl, rfl, rfl⟩⟩
instance : DecidableEq At := fun x y => decidable_of_iff (x.val = y.val ∧ x.slot = y.slot ∧ x.head = y.head ∧ x.source = y.source ∧ x.target = y.target) ⟨fun h => At.ext h.1 h.2.1 h.2.2.1 h.2.2.2.1 h.2.2.2.2, fun h => by subst h; exact ⟨rfl, rfl, rfl, rfl, rfl⟩⟩

/-! ### Numbers as bytes -/
/-- The last k digits, by 256, of a number, the highest one first. -/
def dgs : Nat → Nat → List UInt8
  | 0, _ => []
  | k + 1, m => dgs k (m / 256) ++ [UInt8.ofNat (m % 256)]
def natOf (l : List UInt8) : Nat := l.foldl (fun n d => 256 * n + d.toNat) 0
theorem dgs_length : ∀ k m, (dgs k m).length = k
  | 0, _ => rfl
  | k + 1, m => by rw [dgs, List.length_append, dgs_length k]; rfl
theorem natOf_snoc (l : List UInt8) (d : UInt8) : natOf (l ++ [d]) = 256 * natOf l + d.toNat := by simp [natOf]
theorem natOf_nil : natOf [] = 0 := rfl
theorem natOf_take (l : List UInt8) (k : Nat) (hk : k < l.length) : natOf (l.take (k + 1)) = 256 * natOf (l.take k) + l[k].toNat := by
  rw [List.take_succ_eq_append_getElem hk, natOf_snoc]
theorem snoc_ind {p : List UInt8 → Prop} (h0 : p []) (h1 : ∀ l d, p l → p (l ++ [d])) : ∀ (n : Nat) (l : List UInt8), l.length = n → p l
  | 0, l, h => by rw [List.length_eq_zero_iff.1 h]; exact h0
  | n + 1, l, h => by
    have hne : l ≠ [] := fun e => by rw [e] at h; simp at h
    rw [← List.dropLast_concat_getLast hne]
    exact h1 _ _ (snoc_ind h0 h1 n _ (by rw [List.length_dropLast]; omega))
theorem natOf_lt (l : List UInt8) : natOf l < 256 ^ l.length := by
  refine snoc_ind (p := fun l => natOf l < 256 ^ l.length) (by simp [natOf]) (fun l d h => ?_) _ l rfl
  rw [natOf_snoc, List.length_append, List.length_singleton, Nat.pow_succ]
  have := d.toNat_lt
  omega
theorem natOf_dgs : ∀ k m, natOf (dgs k m) = m % 256 ^ k
  | 0, m => by rw [dgs, natOf_nil, Nat.pow_zero]; omega
  | k + 1, m => by
    rw [dgs, natOf_snoc, natOf_dgs k]
    have e : (UInt8.ofNat (m % 256)).toNat = m % 256 := by simp
    rw [e, Nat.pow_succ, Nat.mul_comm (256 ^ k) 256, Nat.mod_mul]
    omega
theorem dgs_natOf (l : List UInt8) : dgs l.length (natOf l) = l := by
  refine snoc_ind (p := fun l => dgs l.length (natOf l) = l) rfl (fun l d h => ?_) _ l rfl
  have hd := d.toNat_lt
  rw [natOf_snoc, List.length_append, List.length_singleton, dgs]
  have e1 : (256 * natOf l + d.toNat) / 256 = natOf l := by omega
  have e2 : (256 * natOf l + d.toNat) % 256 = d.toNat := by omega
  rw [e1, e2, h, UInt8.ofNat_toNat]
theorem dgs_get : ∀ (k m j : Nat), j < k → bt (dgs k m) j = ((m / 256 ^ (k - 1 - j) % 256 : Nat) : Int)
  | 0, _, _, h => by omega
  | k + 1, m, j, h => by
    unfold bt
    rw [dgs]
    by_cases e : j = k
    · subst e
      have hl : j < (dgs j (m / 256) ++ [UInt8.ofNat (m % 256)]).length := by rw [List.length_append, dgs_length]; simp
      rw [getD_in _ hl, List.getElem_append_right (by rw [dgs_length]; omega)]
      simp [dgs_length]
    · have hj : j < k := by omega
      have ih := dgs_get k (m / 256) j hj
      unfold bt at ih
      have hl : j < (dgs k (m / 256)).length := by rw [dgs_length]; exact hj
      rw [getD_in _ (by rw [List.length_append, dgs_length]; omega), List.getElem_append_left hl]
      rw [getD_in _ hl] at ih
      rw [ih, Nat.div_div_eq_div_mul]
      rw [show k + 1 - 1 - j = (k - 1 - j) + 1 by omega, Nat.pow_succ, Nat.mul_comm]

def num8 (n : UInt64) : List UInt8 := dgs 8 n.toNat
def unnum (l : List UInt8) : UInt64 := UInt64.ofNat (natOf (l.take 8))
theorem num8_length (n : UInt64) : (num8 n).length = 8 := dgs_length _ _
theorem p64 : (256 : Nat) ^ 8 = 18446744073709551616 := by decide
theorem unnum_num8 (n : UInt64) (r : List UInt8) : unnum (num8 n ++ r) = n := by
  unfold unnum
  rw [List.take_append_of_le_length (by rw [num8_length]; omega), List.take_of_length_le (by rw [num8_length]; omega), num8, natOf_dgs, p64]
  have := n.toNat_lt
  rw [Nat.mod_eq_of_lt (by omega), UInt64.ofNat_toNat]
theorem natOf8_lt (l : List UInt8) : natOf (l.take 8) < 18446744073709551616 := by
  have h := natOf_lt (l.take 8)
  have hl : (l.take 8).length ≤ 8 := by rw [List.length_take]; omega
  have := Nat.pow_le_pow_right (show 0 < 256 by omega) hl
  rw [p64] at this
  omega
theorem unnum_toNat (l : List UInt8) : (unnum l).toNat = natOf (l.take 8) := by
  unfold unnum
  rw [UInt64.toNat_ofNat', Nat.mod_eq_of_lt (by have := natOf8_lt l; simpa using this)]
theorem num8_unnum (l : List UInt8) (h : 8 ≤ l.length) : num8 (unnum l) = l.take 8 := by
  unfold num8
  rw [unnum_toNat]
  have := dgs_natOf (l.take 8)
  rwa [show (l.take 8).length = 8 by rw [List.length_take]; omega] at this

/-! ### Roots of bytes -/
def rtOf (l : List UInt8) : Rt := Vector.ofFn fun i : Fin 32 => l.getD i.val 0
theorem rtOf_at (l : List UInt8) (i : Nat) (h : i < 32) : at8 (rtOf l) i = bt l i := by
  unfold at8 bt rtOf
  rw [getD_in _ (by simp; exact h)]
  simp
theorem rt_length (r : Rt) : r.toList.length = 32 := by simp
theorem rtOf_put (r : Rt) (l : List UInt8) : rtOf (r.toList ++ l) = r := by
  refine at8_ext fun i hi => ?_
  rw [rtOf_at _ i hi, at8_bt]
  unfold bt
  rw [getD_in _ (by rw [List.length_append, rt_length]; omega), getD_in _ (by rw [rt_length]; omega), List.getElem_append_left (by rw [rt_length]; omega)]
theorem put_rtOf (l : List UInt8) (h : 32 ≤ l.length) : (rtOf l).toList = l.take 32 := by
  refine bt_ext (by rw [rt_length, List.length_take]; omega) fun i hi => ?_
  rw [List.length_take] at hi
  rw [← at8_bt, rtOf_at l i (by omega), bt_take l 32 i (by omega)]

/-! ### Blocks -/
def zb : Blk := ⟨zr, zr, 0, 0⟩
def putB (b : Blk) : List UInt8 := 1 :: (b.root.toList ++ (b.parent.toList ++ (num8 b.slot ++ num8 b.just)))
def getB (l : List UInt8) : Blk := ⟨rtOf (l.drop 1), rtOf (l.drop 33), unnum (l.drop 65), unnum (l.drop 73)⟩
def isB (l : List UInt8) : Bool := decide (l.length = 81) && decide (bt l 0 = 1)
def blkOf (l : List UInt8) : Blk := if isB l = true then getB l else zb
theorem putB_length (b : Blk) : (putB b).length = 81 := by simp [putB, num8_length]
theorem isB_putB (b : Blk) : isB (putB b) = true := by
  unfold isB
  rw [putB_length]
  rfl
theorem getB_putB (b : Blk) : getB (putB b) = b := by
  have e1 : (putB b).drop 1 = b.root.toList ++ (b.parent.toList ++ (num8 b.slot ++ num8 b.just)) := rfl
  have e2 : (putB b).drop 33 = b.parent.toList ++ (num8 b.slot ++ num8 b.just) := by
    rw [show (33 : Nat) = 1 + 32 from rfl, ← List.drop_drop, e1, List.drop_left' (rt_length _)]
  have e3 : (putB b).drop 65 = num8 b.slot ++ num8 b.just := by
    rw [show (65 : Nat) = 33 + 32 from rfl, ← List.drop_drop, e2, List.drop_left' (rt_length _)]
  have e4 : (putB b).drop 73 = num8 b.just ++ [] := by
    rw [show (73 : Nat) = 65 + 8 from rfl, ← List.drop_drop, e3, List.drop_left' (num8_length _), List.append_nil]
  unfold getB
  rw [e1, e2, e3, e4, rtOf_put, rtOf_put, unnum_num8, unnum_num8]
theorem blkOf_putB (b : Blk) : blkOf (putB b) = b := by unfold blkOf; rw [if_pos (isB_putB b), getB_putB]
theorem split_take (l : List UInt8) (m n : Nat) : (l.drop m).take n ++ l.drop (m + n) = l.drop m := by
  rw [← List.drop_drop]; exact List.take_append_drop n _
theorem head_of {l : List UInt8} {x : UInt8} (h : 0 < l.length) (hx : bt l 0 = (x.toNat : Int)) : l = x :: l.drop 1 := by
  cases l with
  | nil => simp at h
  | cons a l =>
    have : a = x := UInt8.toNat_inj.1 (by have : (a.toNat : Int) = x.toNat := by simpa [bt] using hx
                                          omega)
    rw [this]; rfl
theorem putB_blkOf {l : List UInt8} (h : isB l = true) : putB (blkOf l) = l := by
  unfold isB at h
  rw [Bool.and_eq_true, decide_eq_true_iff, decide_eq_true_iff] at h
  obtain ⟨hl, h0⟩ := h
  unfold blkOf
  rw [if_pos (by unfold isB; simp [hl, h0])]
  unfold putB getB
  rw [put_rtOf _ (by rw [List.length_drop]; omega), put_rtOf _ (by rw [List.length_drop]; omega), num8_unnum _ (by rw [List.length_drop]; omega), num8_unnum _ (by rw [List.length_drop]; omega)]
  have e4 : (l.drop 73).take 8 = l.drop 73 := List.take_of_length_le (by rw [List.length_drop]; omega)
  rw [e4, split_take l 65 8, split_take l 33 32, split_take l 1 32]
  exact (head_of (by omega) h0).symm
theorem blkOf_not {l : List UInt8} (h : isB l = false) : blkOf l = zb := by unfold blkOf; rw [if_neg (by rw [h]; exact Bool.false_ne_true)]

/-! ### Checkpoints and attestations -/
def zc : Ck := ⟨0, zr⟩
def za : At := ⟨0, 0, zr, zc, zc⟩
def putC (c : Ck) : List UInt8 := num8 c.epoch ++ c.root.toList
def getC (l : List UInt8) : Ck := ⟨unnum l, rtOf (l.drop 8)⟩
theorem putC_length (c : Ck) : (putC c).length = 40 := by simp [putC, num8_length]
theorem getC_putC (c : Ck) (r : List UInt8) : getC (putC c ++ r) = c := by
  unfold getC putC
  rw [List.append_assoc, unnum_num8, List.drop_left' (num8_length _), rtOf_put]
theorem putC_getC (l : List UInt8) (h : 40 ≤ l.length) : putC (getC l) = l.take 40 := by
  unfold putC getC
  rw [num8_unnum _ (by omega), put_rtOf _ (by rw [List.length_drop]; omega)]
  rw [show (40 : Nat) = 8 + 32 from rfl, List.take_add]
def okV (v : Int) : Bool := decide (0 ≤ v) && decide (v ≤ 65535)
def putA (a : At) : List UInt8 := UInt8.ofNat 2 :: UInt8.ofNat (a.val.toNat / 256) :: UInt8.ofNat (a.val.toNat % 256) :: (num8 a.slot ++ (a.head.toList ++ (putC a.source ++ putC a.target)))
def putAs (a : At) : List UInt8 := if okV a.val = true then putA a else []
def getA (l : List UInt8) : At := ⟨256 * bt l 1 + bt l 2, unnum (l.drop 3), rtOf (l.drop 11), getC (l.drop 43), getC (l.drop 83)⟩
def isA (l : List UInt8) : Bool := decide (l.length = 123) && decide (bt l 0 = 2)
def attOf (l : List UInt8) : At := if isA l = true then getA l else za
theorem putA_length (a : At) : (putA a).length = 123 := by simp [putA, num8_length, putC_length]
theorem isA_putA (a : At) : isA (putA a) = true := by
  unfold isA
  rw [putA_length]
  rfl
theorem okV_bd {v : Int} (h : okV v = true) : 0 ≤ v ∧ v ≤ 65535 := by
  unfold okV at h
  rw [Bool.and_eq_true, decide_eq_true_iff, decide_eq_true_iff] at h
  exact h
theorem getA_putA (a : At) (h : okV a.val = true) : getA (putA a) = a := by
  have hv := okV_bd h
  have e3 : (putA a).drop 3 = num8 a.slot ++ (a.head.toList ++ (putC a.source ++ putC a.target)) := rfl
  have e11 : (putA a).drop 11 = a.head.toList ++ (putC a.source ++ putC a.target) := by
    rw [show (11 : Nat) = 3 + 8 from rfl, ← List.drop_drop, e3, List.drop_left' (num8_length _)]
  have e43 : (putA a).drop 43 = putC a.source ++ putC a.target := by
    rw [show (43 : Nat) = 11 + 32 from rfl, ← List.drop_drop, e11, List.drop_left' (rt_length _)]
  have e83 : (putA a).drop 83 = putC a.target ++ [] := by
    rw [show (83 : Nat) = 43 + 40 from rfl, ← List.drop_drop, e43, List.drop_left' (putC_length _), List.append_nil]
  have b1 : bt (putA a) 1 = ((a.val.toNat / 256 : Nat) : Int) := by
    show (((UInt8.ofNat (a.val.toNat / 256)).toNat : Nat) : Int) = _
    rw [UInt8.toNat_ofNat', Nat.mod_eq_of_lt (by omega)]
  have b2 : bt (putA a) 2 = ((a.val.toNat % 256 : Nat) : Int) := by
    show (((UInt8.ofNat (a.val.toNat % 256)).toNat : Nat) : Int) = _
    rw [UInt8.toNat_ofNat', Nat.mod_eq_of_lt (by omega)]
  unfold getA
  rw [e3, e11, e43, e83, b1, b2, unnum_num8, rtOf_put, getC_putC, getC_putC]
  exact At.ext (by show 256 * ((a.val.toNat / 256 : Nat) : Int) + ((a.val.toNat % 256 : Nat) : Int) = a.val; omega) rfl rfl rfl rfl
theorem attOf_putA (a : At) (h : okV a.val = true) : attOf (putA a) = a := by unfold attOf; rw [if_pos (isA_putA a), getA_putA a h]
theorem okV_getA (l : List UInt8) : okV (getA l).val = true := by
  have h1 := bt_bd l 1
  have h2 := bt_bd l 2
  unfold okV getA
  rw [Bool.and_eq_true, decide_eq_true_iff, decide_eq_true_iff]
  constructor
  · show 0 ≤ 256 * bt l 1 + bt l 2; omega
  · show 256 * bt l 1 + bt l 2 ≤ 65535; omega
theorem okV_attOf (l : List UInt8) : okV (attOf l).val = true := by
  unfold attOf
  split
  · exact okV_getA l
  · rfl
theorem bt_ofNat (l : List UInt8) (i n : Nat) (h : bt l i = (n : Int)) : UInt8.ofNat n = l.getD i 0 := by
  unfold bt at h
  have : (l.getD i 0).toNat = n := by omega
  rw [← this, UInt8.ofNat_toNat]
theorem three {l : List UInt8} (h : 3 ≤ l.length) : l = l.getD 0 0 :: l.getD 1 0 :: l.getD 2 0 :: l.drop 3 := by
  match l, h with
  | a :: b :: c :: r, _ => rfl
theorem putA_attOf {l : List UInt8} (h : isA l = true) : putA (attOf l) = l := by
  unfold isA at h
  rw [Bool.and_eq_true, decide_eq_true_iff, decide_eq_true_iff] at h
  obtain ⟨hl, h0⟩ := h
  unfold attOf
  rw [if_pos (by unfold isA; simp [hl, h0])]
  have h1 := bt_bd l 1
  have h2 := bt_bd l 2
  have hv : (getA l).val.toNat = 256 * (bt l 1).toNat + (bt l 2).toNat := by
    show (256 * bt l 1 + bt l 2).toNat = _
    omega
  unfold putA
  rw [hv, show (256 * (bt l 1).toNat + (bt l 2).toNat) / 256 = (bt l 1).toNat by omega, show (256 * (bt l 1).toNat + (bt l 2).toNat) % 256 = (bt l 2).toNat by omega]
  rw [bt_ofNat l 0 2 h0, bt_ofNat l 1 (bt l 1).toNat (by omega), bt_ofNat l 2 (bt l 2).toNat (by omega)]
  show _ :: _ :: _ :: (num8 (unnum (l.drop 3)) ++ ((rtOf (l.drop 11)).toList ++ (putC (getC (l.drop 43)) ++ putC (getC (l.drop 83))))) = l
  rw [num8_unnum _ (by rw [List.length_drop]; omega), put_rtOf _ (by rw [List.length_drop]; omega), putC_getC _ (by rw [List.length_drop]; omega), putC_getC _ (by rw [List.length_drop]; omega)]
  have e4 : (l.drop 83).take 40 = l.drop 83 := List.take_of_length_le (by rw [List.length_drop]; omega)
  rw [e4, split_take l 43 40, split_take l 11 32, split_take l 3 8]
  exact (three (by omega)).symm
theorem attOf_not {l : List UInt8} (h : isA l = false) : attOf l = za := by unfold attOf; rw [if_neg (by rw [h]; exact Bool.false_ne_true)]
theorem isA_nil : isA [] = false := rfl
theorem isA_putAs (a : At) : isA (putAs a) = okV a.val := by
  unfold putAs
  split
  · rename_i h; rw [isA_putA, h]
  · rename_i h; rw [isA_nil]; simpa using h
theorem not_both {l : List UInt8} (h : isB l = true) : isA l = false := by
  unfold isB at h
  unfold isA
  rw [Bool.and_eq_true, decide_eq_true_iff, decide_eq_true_iff] at h
  simp [h.1]
end Go.Proofs.Ytjdpndclgmdahaa
