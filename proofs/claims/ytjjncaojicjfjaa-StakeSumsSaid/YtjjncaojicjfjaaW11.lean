/-
  What is asked of package stake's functions (contracts, by name); the law's own example; what the laws of layer 11 want.
-/
import Derived.Test.YtjjncaojicjfjaaR11Of
import Derived.Test.YtjjncaojicjfjaaR04IntsB
import Derived.Laws.Bits64b
namespace Go.Proofs.Ytjjncaojicjfjaa
open Go.RowKit

def StMayC : Prop := ∀ (v : Value) (l : List UInt64) (w : World), SlE Enum w v l → Calls Try.prog 16 #[v] w fun e w' => e = .returned (.bool (mayB l)) ∧ Below w.heap.size w w'
def StTotalC : Prop := ∀ (v : Value) (l : List UInt64) (w : World), SlE Enum w v l → Calls Try.prog 17 #[v] w fun e w' => e = .returned (.int .u64 (totS l : Int)) ∧ Below w.heap.size w w'
def StOfC : Prop := ∀ (v : Value) (l : List UInt64) (m : UInt64) (w : World), SlE Enum w v l → Calls Try.prog 19 #[v, .int .u64 (m.toNat : Int)] w fun e w' => e = .returned (.int .u64 (ofS l m : Int)) ∧ Below w.heap.size w w'
def StMostC : Prop := ∀ (v : Value) (l : List UInt64) (m : UInt64) (w : World), SlE Enum w v l → Calls Try.prog 21 #[v, .int .u64 (m.toNat : Int)] w fun e w' => e = .returned (.bool (mostS l m)) ∧ Below w.heap.size w w'
def StSomeC : Prop := ∀ (v : Value) (l : List UInt64) (m : UInt64) (w : World), SlE Enum w v l → Calls Try.prog 22 #[v, .int .u64 (m.toNat : Int)] w fun e w' => e = .returned (.bool (someS l m)) ∧ Below w.heap.size w w'
def StBitC : Prop := ∀ (v : Int) (w : World), Calls Try.prog 23 #[.int .i64 v] w fun e w' => e = .returned (.int .u64 (bitN v : Int)) ∧ Below w.heap.size w w'
def StWhoC : Prop := ∀ (m : UInt64) (w : World), Calls Try.prog 11 #[.int .u64 (m.toNat : Int)] w (ListIs (whoI m) w)
/-- All of them. -/
structure StakeC : Prop where
  may : StMayC
  total : StTotalC
  of : StOfC
  most : StMostC
  some : StSomeC
  bit : StBitC
  who : StWhoC

theorem nums_lit3 (w : World) (x y z : Nat) (hx : x < 18446744073709551616) (hy : y < 18446744073709551616) (hz : z < 18446744073709551616) (b : Nat) (hb : b = w.heap.size) :
    SlE Enum (w.alloc (.cells #[.int .u64 (x : Int), .int .u64 (y : Int), .int .u64 (z : Int)] 23)) (.slice (some ⟨b, 0, none⟩) 3 3) [UInt64.ofNat x, UInt64.ofNat y, UInt64.ofNat z] :=
  slE_lit w _ 3 _ _ b rfl hb (by simp [cellsE, Enum, num_nat hx, num_nat hy, num_nat hz])
/-- Balances that lie somewhere. -/
structure Bw (w W : World) (v : Value) (l : List UInt64) : Prop where
  s : SlE Enum W v l
  g : Below w.heap.size w W
theorem Bw.keep {w W W' : World} {v : Value} {l : List UInt64} (h : Bw w W v l) (g : Below W.heap.size W W') : Bw w W' v l := ⟨slE_keep g h.s, belowT h.g g⟩
theorem st_ex : mostS [1, 1, 1] 5 = true ∧ mostS [1, 1, 1] 1 = false ∧ someS [1, 1, 1] 1 = true ∧ totS [1, 1, 1] = 3 ∧ ofS [1, 1, 1] 6 = 2 ∧ bitN 3 = 8 ∧ mayB [1, 1, 1] = true ∧ (whoI 5).length = 2 := by decide +kernel

set_option maxRecDepth 100000 in
set_option maxHeartbeats 8000000 in
theorem awake_any11 (H : StakeC) (w : World) : Calls Try.prog 9 #[] w fun e w' => e = .returned (.bool true) ∧ Below w.heap.size w w' := by
  obtain ⟨x1, x2, x3, x4, x5, x6, x7, x8⟩ := st_ex
  have H1 := Lib.hid (fun (v : Value) W (h : SlE Enum W v [1, 1, 1]) => H.most v _ 5 W h)
  have H2 := Lib.hid (fun (v : Value) W (h : SlE Enum W v [1, 1, 1]) => H.most v _ 1 W h)
  have H3 := Lib.hid (fun (v : Value) W (h : SlE Enum W v [1, 1, 1]) => H.some v _ 1 W h)
  have H4 := Lib.hid (fun (v : Value) W (h : SlE Enum W v [1, 1, 1]) => H.total v _ W h)
  have H5 := Lib.hid (fun (v : Value) W (h : SlE Enum W v [1, 1, 1]) => H.of v _ 6 W h)
  have H6 := Lib.hid (fun W => H.bit 3 W)
  have H7 := Lib.hid (fun (v : Value) W (h : SlE Enum W v [1, 1, 1]) => H.may v _ W h)
  have H8 := Lib.hid (fun W => H.who 5 W)
  rw [x1] at H1
  rw [x2] at H2
  rw [x3] at H3
  rw [x4] at H4
  rw [x5] at H5
  rw [x6] at H6
  rw [x7] at H7
  have X8 := Lib.hid x8
  clear x1 x2 x3 x4 x5 x6 x7 x8 H
  go_enter Try.func9, Try.ntmps9
  go_wp2_with fail
  obtain ⟨W, hW⟩ : ∃ W, W = w.alloc (.cells #[.int .u64 1, .int .u64 1, .int .u64 1] 23) := ⟨_, rfl⟩
  have A : Hid (Bw w W (.slice (some ⟨w.heap.size, 0, none⟩) 3 3) [1, 1, 1]) := by rw [hW]; exact ⟨nums_lit3 w 1 1 1 (by decide) (by decide) (by decide) _ rfl, below1⟩
  rw [← hW]
  clear hW
  refine (H1.out _ _ A.out.s).mono ?_
  rintro e w1 ⟨rfl, g⟩
  replace A := Lib.hid (A.out.keep g)
  clear g
  go_wp2_with fail
  refine (H2.out _ _ A.out.s).mono ?_
  rintro e w2 ⟨rfl, g⟩
  replace A := Lib.hid (A.out.keep g)
  clear g
  go_wp2_with fail
  refine (H3.out _ _ A.out.s).mono ?_
  rintro e w3 ⟨rfl, g⟩
  replace A := Lib.hid (A.out.keep g)
  clear g
  go_wp2_with fail
  refine (H4.out _ _ A.out.s).mono ?_
  rintro e w4 ⟨rfl, g⟩
  replace A := Lib.hid (A.out.keep g)
  clear g
  go_wp2_with fail
  refine (H5.out _ _ A.out.s).mono ?_
  rintro e w5 ⟨rfl, g⟩
  replace A := Lib.hid (A.out.keep g)
  clear g
  go_wp2_with fail
  refine (H6.out _).mono ?_
  rintro e w6 ⟨rfl, g⟩
  replace A := Lib.hid (A.out.keep g)
  clear g
  go_wp2_with fail
  refine (H7.out _ _ A.out.s).mono ?_
  rintro e w7 ⟨rfl, g⟩
  replace A := Lib.hid (A.out.keep g)
  clear g
  go_wp2_with fail
  refine (H8.out _).mono ?_
  rintro e w8 ⟨v, rfl, hv, g⟩
  replace A := Lib.hid (A.out.keep g)
  obtain ⟨pv, cv, rfl⟩ := slE_len hv X8.out
  clear g hv
  go_wp2_with fail
  go_ret
  exact ⟨rfl, A.out.g⟩

/-! ### the laws, plainly -/
theorem m_and (a b : UInt64) : bits .and .u64 (a.toNat : Int) (b.toNat : Int) = ((a &&& b).toNat : Int) := by
  rw [bits_and_u64_nat a.toNat b.toNat a.toNat_lt b.toNat_lt, UInt64.toNat_and]
theorem m_or (a b : UInt64) : bits .or .u64 (a.toNat : Int) (b.toNat : Int) = ((a ||| b).toNat : Int) := by
  rw [bits_or_u64_nat a.toNat b.toNat a.toNat_lt b.toNat_lt, UInt64.toNat_or]
theorem m_rest (a : UInt64) : ((allM - a).toNat : Int) = 18446744073709551615 - (a.toNat : Int) := by
  have ha := a.toNat_lt
  rw [UInt64.toNat_sub_of_le _ _ (by rw [UInt64.le_iff_toNat_le]; show a.toNat ≤ 18446744073709551615; omega)]
  show ((18446744073709551615 - a.toNat : Nat) : Int) = _
  omega
section
variable {l : List UInt64}
theorem may_len (h : mayB l = true) : l.length ≤ 64 := by have := (mayB_iff.1 h).2.1; omega
theorem lawS_common {a b : UInt64} (ha : mostS l a = true) (hb : mostS l b = true) : someS l (a &&& b) = true := by
  unfold mostS someS at *
  rw [Bool.and_eq_true] at ha hb ⊢
  obtain ⟨hm, ha⟩ := ha
  unfold totS at *
  rw [ofS_yes hm, ofS_yes hm] at ha hb ⊢
  exact ⟨hm, most_common (fn l) (may_len hm) ha hb.2⟩
theorem lawS_parts (a b : UInt64) : ofS l a + ofS l (allM - a) = totS l ∧ ofS l (a &&& b) + ofS l (a ||| b) = ofS l a + ofS l b := by
  unfold totS
  cases h : mayB l
  · simp only [ofS_no h, and_self]
  · simp only [ofS_yes h]
    exact ⟨of_parts (fn l) (may_len h) a, of_both (fn l) a b⟩
theorem lawS_more (a b : UInt64) : ofS l a ≤ ofS l (a ||| b) ∧ (mostS l a = true → mostS l (a ||| b) = true) ∧ (mostS l a = true → someS l a = true) := by
  refine ⟨?_, fun e => ?_, fun e => ?_⟩
  · cases h : mayB l
    · simp only [ofS_no h]; exact Nat.le_refl _
    · simp only [ofS_yes h]; exact of_mono (fn l) (subM_left a b)
  · unfold mostS totS at *
    rw [Bool.and_eq_true] at e ⊢
    obtain ⟨hm, e⟩ := e
    rw [ofS_yes hm, ofS_yes hm] at e ⊢
    exact ⟨hm, most_mono (fn l) (subM_left a b) e⟩
  · unfold mostS someS at *
    rw [Bool.and_eq_true] at e ⊢
    exact ⟨e.1, most_some e.2⟩
theorem lawS_none (h : mayB l = true) (a : UInt64) : mostS l 0 = decide (totS l = 0) ∧ someS l 0 = decide (totS l = 0) ∧ mostS l allM = true ∧ (someS l a = true ∨ mostS l (allM - a) = true) := by
  unfold mostS someS totS
  rw [h]
  simp only [ofS_yes h, Bool.true_and]
  exact ⟨(most_none (fn l)).1, (most_none (fn l)).2, most_all (fn l), some_or_rest (fn l) (may_len h) a⟩
theorem lawS_not (h : mayB l = false) (a : UInt64) : mostS l a = false ∧ someS l a = false := by unfold mostS someS; rw [h]; exact ⟨rfl, rfl⟩
end
end Go.Proofs.Ytjjncaojicjfjaa
