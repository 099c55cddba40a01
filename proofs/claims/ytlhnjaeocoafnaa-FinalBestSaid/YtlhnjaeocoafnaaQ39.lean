/-
  What is asked of stake.Most.
  What is asked of stake.Some.
  Package num: Most, Some, over natural numbers (and all that they call).
  Package stake: Most, Some, walked.
-/
import Derived.Test.YtlhnjaeocoafnaaQ10
import Derived.Test.YtlhnjaeocoafnaaQ18
import Derived.Lib.Mul64
import Derived.Laws.Bits64b
import Derived.Outline
import Derived.WalkSpells
import Derived.Laws.StructEq
import Derived.KernelRfl
import Derived.Test.YtlhnjaeocoafnaaQ38
namespace Go.Proofs.Ytlhnjaeocoafnaa
open Go.RowKit
set_option maxRecDepth 100000

def StMostC : Prop := ∀ (v : Value) (l : List UInt64) (m : UInt64) (w : World), SlE Enum w v l → Calls Try.prog 63 #[v, .int .u64 (m.toNat : Int)] w fun e w' => e = .returned (.bool (mostS l m)) ∧ Below w.heap.size w w'
end Go.Proofs.Ytlhnjaeocoafnaa
namespace Go.Proofs.Ytlhnjaeocoafnaa
open Go.RowKit
set_option maxRecDepth 100000

def StSomeC : Prop := ∀ (v : Value) (l : List UInt64) (m : UInt64) (w : World), SlE Enum w v l → Calls Try.prog 26 #[v, .int .u64 (m.toNat : Int)] w fun e w' => e = .returned (.bool (someS l m)) ∧ Below w.heap.size w w'
end Go.Proofs.Ytlhnjaeocoafnaa
namespace Go.Proofs.Ytlhnjaeocoafnaa
open Go.RowKit
set_option maxRecDepth 100000

/-- A word of 64 bits. -/
def Word (x : Int) : Prop := 0 ≤ x ∧ x < 18446744073709551616

def mostB (a b : Int) : Bool := decide (2 * b ≤ 3 * a)
def someB (a b : Int) : Bool := decide (b ≤ 3 * a)

theorem maskN (a : Nat) (ha : a < 18446744073709551616) : bits .and .u64 (a : Int) 4294967295 = ((a % 4294967296 : Nat) : Int) := by
  have h := bits_and_u64_nat a 4294967295 ha (by omega)
  have e : a &&& 4294967295 = a % 4294967296 := Nat.and_two_pow_sub_one_eq_mod a 32
  rw [e] at h
  exact h
theorem divN (a : Nat) : (a : Int) / 4294967296 = ((a / 4294967296 : Nat) : Int) := by omega
theorem mulZ (a b : Nat) : (a : Int) * (b : Int) = ((a * b : Nat) : Int) := (Int.natCast_mul a b).symm
theorem addZ (a b : Nat) : (a : Int) + (b : Int) = ((a + b : Nat) : Int) := (Int.natCast_add a b).symm
theorem wrapN (a : Nat) (ha : a < 18446744073709551616) : IntKind.u64.wrap (a : Int) = (a : Int) := by rw [IntKind.wrap_u64]; omega
theorem wrapM (a : Nat) : IntKind.u64.wrap (a : Int) = ((a % 18446744073709551616 : Nat) : Int) := by rw [IntKind.wrap_u64]; omega

set_option maxHeartbeats 1000000 in
theorem mul64_nat (x y : Nat) (hx : x < 18446744073709551616) (hy : y < 18446744073709551616) (w : World) :
    Calls Try.prog 90 #[.int .u64 x, .int .u64 y] w fun e w' => e = .returned (.tuple #[.int .u64 ((x * y / 18446744073709551616 : Nat) : Int), .int .u64 ((x * y % 18446744073709551616 : Nat) : Int)]) ∧ w = w' := by
  obtain ⟨bd, bt, bw, hhi⟩ := Lib.mul64_hi x y hx hy
  have ba := Lib.half_mul_le (a := x / 4294967296) (b := y / 4294967296) (by omega) (by omega)
  have bb := Lib.half_mul_le (a := x / 4294967296) (b := y % 4294967296) (by omega) (by omega)
  have bc := Lib.half_mul_le (a := x % 4294967296) (b := y / 4294967296) (by omega) (by omega)
  have ba' : x / 4294967296 * (y / 4294967296) < 18446744073709551616 := by omega
  have bb' : x / 4294967296 * (y % 4294967296) < 18446744073709551616 := by omega
  have bc' : x % 4294967296 * (y / 4294967296) < 18446744073709551616 := by omega
  have bh1 : x / 4294967296 * (y / 4294967296) + (x / 4294967296 * (y % 4294967296) + x % 4294967296 * (y % 4294967296) / 4294967296) / 4294967296 < 18446744073709551616 := by omega
  have bh : x / 4294967296 * (y / 4294967296) + (x / 4294967296 * (y % 4294967296) + x % 4294967296 * (y % 4294967296) / 4294967296) / 4294967296 + ((x / 4294967296 * (y % 4294967296) + x % 4294967296 * (y % 4294967296) / 4294967296) % 4294967296 + x % 4294967296 * (y / 4294967296)) / 4294967296 < 18446744073709551616 := by omega
  go_enter Try.func90, Try.ntmps90
  go_wp2
  simp only [maskN x hx, maskN y hy, divN, mulZ, addZ, wrapN _ bd, wrapN _ bb', wrapN _ bt, maskN _ bt, wrapN _ bc', wrapN _ bw, wrapN _ ba', wrapN _ bh1, wrapN _ bh, wrapM (x * y)]
  rw [hhi]
  go_ret2
  exact ⟨rfl, rfl⟩

theorem mul64 (x y : Int) (hx : Word x) (hy : Word y) (w : World) :
    Calls Try.prog 90 #[.int .u64 x, .int .u64 y] w fun e w' => e = .returned (.tuple #[.int .u64 (x * y / 18446744073709551616), .int .u64 (x * y % 18446744073709551616)]) ∧ w = w' := by
  obtain ⟨hx0, hx1⟩ := hx
  obtain ⟨hy0, hy1⟩ := hy
  obtain ⟨X, rfl⟩ := Int.eq_ofNat_of_zero_le hx0
  obtain ⟨Y, rfl⟩ := Int.eq_ofNat_of_zero_le hy0
  have h := mul64_nat X Y (by omega) (by omega) w
  rw [Int.natCast_ediv, Int.natCast_emod, Int.natCast_mul] at h
  exact h

@[go_sem] theorem eqWide (a b c d : Int) (w : World) : (Op.equalIn 10000 105 (.agg #[.int .u64 a, .int .u64 b]) (.agg #[.int .u64 c, .int .u64 d])).run Try.prog w = .ok (a == c && b == d) w := by
  have u3 := Try.underlying28
  have a3 := Try.isAgg28
  have z3 := Try.sizeOf28
  rw [show (10000 : Nat) = 9999 + 1 from rfl, Op.equalIn]
  simp only [Sem.run_bind, run_underlying Try.underlying105, Result.andThen_ok]
  simp only [Std.Legacy.Range.forIn_eq_forIn_range', Std.Legacy.Range.size, Nat.sub_zero, Nat.add_sub_cancel, Nat.div_one, List.range'_succ, List.range'_zero, List.forIn_cons, List.forIn_nil]
  go_simp
  by_cases h1 : a = c <;> by_cases h2 : b = d <;> simp [h1, h2]


theorem belowA1 {a w : World} (h : Below a.heap.size a w) (o : Obj) : Below a.heap.size a (w.alloc o) := h.alloc h.size _

set_option maxHeartbeats 400000 in
theorem product_any (a b : Int) (ha : Word a) (hb : Word b) (w : World) :
    Calls Try.prog 76 #[.int .u64 a, .int .u64 b] w fun e w' => e = .returned (.agg #[.int .u64 (a * b / 18446744073709551616), .int .u64 (a * b % 18446744073709551616)]) ∧ Below w.heap.size w w' := by
  go_enter Try.func76, Try.ntmps76
  go_wp2_with (go_at_call 90; refine (mul64 _ _ ha hb _).mono ?_; rintro e w' ⟨rfl, rfl⟩)
  exact bodyPost_ret (v := .agg #[.int .u64 (a * b / 18446744073709551616), .int .u64 (a * b % 18446744073709551616)]) (by simp [results, Try.results76, go_sem]) rfl ⟨rfl, below1⟩

set_option maxHeartbeats 400000 in
theorem noLess_same (ah al : Int) (w : World) :
    Calls Try.prog 75 #[.agg #[.int .u64 ah, .int .u64 al], .agg #[.int .u64 ah, .int .u64 al]] w fun e w' => e = .returned (.bool true) ∧ Below w.heap.size w w' := by
  go_enter Try.func75, Try.ntmps75
  go_wp2
  go_ret
  exact ⟨rfl, belowA1 below1 _⟩

set_option maxHeartbeats 400000 in
theorem noLess_high (ah al bh bl : Int) (h : bh < ah) (w : World) :
    Calls Try.prog 75 #[.agg #[.int .u64 ah, .int .u64 al], .agg #[.int .u64 bh, .int .u64 bl]] w fun e w' => e = .returned (.bool true) ∧ Below w.heap.size w w' := by
  have h1 : (ah == bh) = false := beq_eq_false_iff_ne.2 (by omega)
  go_enter Try.func75, Try.ntmps75
  go_wp2
  go_ret
  exact ⟨rfl, belowA1 below1 _⟩

set_option maxHeartbeats 400000 in
theorem noLess_low (ah al bh bl : Int) (h : ah < bh) (w : World) :
    Calls Try.prog 75 #[.agg #[.int .u64 ah, .int .u64 al], .agg #[.int .u64 bh, .int .u64 bl]] w fun e w' => e = .returned (.bool false) ∧ Below w.heap.size w w' := by
  have h1 : (ah == bh) = false := beq_eq_false_iff_ne.2 (by omega)
  have h2 : ¬ bh < ah := by omega
  go_enter Try.func75, Try.ntmps75
  go_wp2
  go_ret
  exact ⟨rfl, belowA1 below1 _⟩

set_option maxHeartbeats 400000 in
theorem noLess_more (ah al bl : Int) (h : bl < al) (w : World) :
    Calls Try.prog 75 #[.agg #[.int .u64 ah, .int .u64 al], .agg #[.int .u64 ah, .int .u64 bl]] w fun e w' => e = .returned (.bool true) ∧ Below w.heap.size w w' := by
  have h1 : (al == bl) = false := beq_eq_false_iff_ne.2 (by omega)
  go_enter Try.func75, Try.ntmps75
  go_wp2
  go_ret
  exact ⟨rfl, belowA1 below1 _⟩

set_option maxHeartbeats 400000 in
theorem noLess_less (ah al bl : Int) (h : al < bl) (w : World) :
    Calls Try.prog 75 #[.agg #[.int .u64 ah, .int .u64 al], .agg #[.int .u64 ah, .int .u64 bl]] w fun e w' => e = .returned (.bool false) ∧ Below w.heap.size w w' := by
  have h1 : (al == bl) = false := beq_eq_false_iff_ne.2 (by omega)
  have h2 : ¬ bl < al := by omega
  go_enter Try.func75, Try.ntmps75
  go_wp2
  go_ret
  exact ⟨rfl, belowA1 below1 _⟩

def noLessB (ah al bh bl : Int) : Bool := decide (bh < ah ∨ bh = ah ∧ bl ≤ al)

theorem noLess_any (ah al bh bl : Int) (w : World) :
    Calls Try.prog 75 #[.agg #[.int .u64 ah, .int .u64 al], .agg #[.int .u64 bh, .int .u64 bl]] w fun e w' => e = .returned (.bool (noLessB ah al bh bl)) ∧ Below w.heap.size w w' := by
  unfold noLessB
  by_cases h1 : bh < ah
  · rw [decide_eq_true (p := bh < ah ∨ bh = ah ∧ bl ≤ al) (by omega)]
    exact noLess_high _ _ _ _ h1 w
  by_cases h2 : ah < bh
  · rw [decide_eq_false (p := bh < ah ∨ bh = ah ∧ bl ≤ al) (by omega)]
    exact noLess_low _ _ _ _ h2 w
  obtain rfl : ah = bh := by omega
  by_cases h3 : bl < al
  · rw [decide_eq_true (p := ah < ah ∨ ah = ah ∧ bl ≤ al) (by omega)]
    exact noLess_more _ _ _ h3 w
  by_cases h4 : al < bl
  · rw [decide_eq_false (p := ah < ah ∨ ah = ah ∧ bl ≤ al) (by omega)]
    exact noLess_less _ _ _ h4 w
  obtain rfl : al = bl := by omega
  rw [decide_eq_true (p := ah < ah ∨ ah = ah ∧ al ≤ al) (by omega)]
  exact noLess_same _ _ w

theorem word_lit (n : Nat) (h : n < 18446744073709551616) : Word (n : Int) := ⟨by omega, by omega⟩

theorem noLess_words (x y : Int) : noLessB (x / 18446744073709551616) (x % 18446744073709551616) (y / 18446744073709551616) (y % 18446744073709551616) = decide (y ≤ x) := by
  unfold noLessB
  by_cases h : y ≤ x
  · rw [decide_eq_true h]; exact decide_eq_true (by omega)
  · rw [decide_eq_false h]; exact decide_eq_false (by omega)

set_option maxHeartbeats 400000 in
theorem most_any (a b : Int) (ha : Word a) (hb : Word b) (w : World) :
    Calls Try.prog 83 #[.int .u64 a, .int .u64 b] w fun e w' => e = .returned (.bool (mostB a b)) ∧ Below w.heap.size w w' := by
  have c3 := fun w => product_any 3 a (word_lit 3 (by decide)) ha w
  have c2 := fun w => product_any 2 b (word_lit 2 (by decide)) hb w
  have hn := noLess_words (3 * a) (2 * b)
  rw [show mostB a b = decide (2 * b ≤ 3 * a) from rfl, ← hn]
  clear hn ha hb
  generalize 3 * a / 18446744073709551616 = p at *
  generalize 3 * a % 18446744073709551616 = q at *
  generalize 2 * b / 18446744073709551616 = r at *
  generalize 2 * b % 18446744073709551616 = s at *
  go_enter Try.func83, Try.ntmps83
  go_wp2_with fail
  refine (c3 _).mono ?_
  rintro e w1 ⟨rfl, h1⟩
  go_wp2_with fail
  refine (c2 _).mono ?_
  rintro e w2 ⟨rfl, h2⟩
  go_wp2_with fail
  refine (noLess_any _ _ _ _ _).mono ?_
  rintro e w3 ⟨rfl, h3⟩
  go_wp2_with fail
  go_ret
  exact ⟨rfl, belowT (belowT h1 h2) h3⟩

set_option maxHeartbeats 400000 in
theorem some_any (a b : Int) (ha : Word a) (hb : Word b) (w : World) :
    Calls Try.prog 52 #[.int .u64 a, .int .u64 b] w fun e w' => e = .returned (.bool (someB a b)) ∧ Below w.heap.size w w' := by
  have c3 := fun w => product_any 3 a (word_lit 3 (by decide)) ha w
  have hn := noLess_words (3 * a) b
  obtain ⟨hb0, hb1⟩ := hb
  rw [show b / 18446744073709551616 = 0 by omega, show b % 18446744073709551616 = b by omega] at hn
  rw [show someB a b = decide (b ≤ 3 * a) from rfl, ← hn]
  clear hn ha hb0 hb1
  generalize 3 * a / 18446744073709551616 = p at *
  generalize 3 * a % 18446744073709551616 = q at *
  go_enter Try.func52, Try.ntmps52
  go_wp2_with fail
  refine (c3 _).mono ?_
  rintro e w1 ⟨rfl, h1⟩
  go_wp2_with fail
  refine (noLess_any _ _ _ _ _).mono ?_
  rintro e w3 ⟨rfl, h3⟩
  go_wp2_with fail
  go_ret
  exact ⟨rfl, belowT h1 h3⟩

theorem numMost (a b : Nat) (ha : a < 18446744073709551616) (hb : b < 18446744073709551616) (w : World) :
    Calls Try.prog 83 #[.int .u64 (a : Int), .int .u64 (b : Int)] w fun e w' => e = .returned (.bool (mostN a b)) ∧ Below w.heap.size w w' := by
  have := most_any a b (word_lit a ha) (word_lit b hb) w
  rwa [show mostB a b = mostN a b by unfold mostB mostN; rw [Bool.eq_iff_iff, decide_eq_true_iff, decide_eq_true_iff]; omega] at this
theorem numSome (a b : Nat) (ha : a < 18446744073709551616) (hb : b < 18446744073709551616) (w : World) :
    Calls Try.prog 52 #[.int .u64 (a : Int), .int .u64 (b : Int)] w fun e w' => e = .returned (.bool (someN a b)) ∧ Below w.heap.size w w' := by
  have := some_any a b (word_lit a ha) (word_lit b hb) w
  rwa [show someB a b = someN a b by unfold someB someN; rw [Bool.eq_iff_iff, decide_eq_true_iff, decide_eq_true_iff]; omega] at this
end Go.Proofs.Ytlhnjaeocoafnaa
namespace Go.Proofs.Ytlhnjaeocoafnaa
open Go.RowKit
set_option maxRecDepth 100000

set_option maxHeartbeats 1000000 in
theorem stakeMost : StMostC := fun v l mask w h => by
  have HM := Lib.hid (stakeMay v l w h)
  have HO := Lib.hid (fun W (g : Below w.heap.size w W) => stakeOf v l mask W (slE_keep g h))
  have HT := Lib.hid (fun W (g : Below w.heap.size w W) => stakeTotal v l W (slE_keep g h))
  have HX := Lib.hid (fun W => numMost (ofS l mask) (totS l) (by have : ofS l mask ≤ 8796093022208 := ofS_lt; omega) (by have : totS l ≤ 8796093022208 := ofS_lt; omega) W)
  obtain ⟨m, hm⟩ : ∃ m, m = (mask.toNat : Int) := ⟨_, rfl⟩
  rw [← hm] at HO
  rw [← hm]
  have he : mostS l mask = (mayB l && mostN (ofS l mask) (totS l)) := rfl
  rw [he]
  generalize mostN (ofS l mask) (totS l) = r at *
  generalize ofS l mask = o at *
  generalize totS l = t at *
  generalize mayB l = b at *
  clear h hm he
  go_enter Try.func63, Try.ntmps63
  go_wp2_with fail
  refine HM.out.mono ?_
  rintro e w1 ⟨rfl, g1⟩
  have G1 := Lib.hid g1
  clear g1
  cases b
  · go_wp2_with fail
    go_ret
    exact ⟨by cases r <;> rfl, G1.out⟩
  go_wp2_with fail
  refine (HO.out _ G1.out).mono ?_
  rintro e w2 ⟨rfl, g⟩
  have G2 := Lib.hid (belowT G1.out g)
  clear g
  go_wp2_with fail
  refine (HT.out _ G2.out).mono ?_
  rintro e w3 ⟨rfl, g⟩
  have G3 := Lib.hid (belowT G2.out g)
  clear g
  go_wp2_with fail
  refine (HX.out _).mono ?_
  rintro e w4 ⟨rfl, g⟩
  have G4 := Lib.hid (belowT G3.out g)
  clear g
  cases r <;> (
    go_wp2_with fail
    go_ret
    exact ⟨rfl, G4.out⟩)
theorem enters_stakeMost : ∀ args w, (callFunc 63 args).run Try.prog w = .ok (.enter 63 args) w := entersE Try.func63 (by kernel_rfl) (by kernel_rfl)

set_option maxHeartbeats 1000000 in
theorem stakeSome : StSomeC := fun v l mask w h => by
  have HM := Lib.hid (stakeMay v l w h)
  have HO := Lib.hid (fun W (g : Below w.heap.size w W) => stakeOf v l mask W (slE_keep g h))
  have HT := Lib.hid (fun W (g : Below w.heap.size w W) => stakeTotal v l W (slE_keep g h))
  have HX := Lib.hid (fun W => numSome (ofS l mask) (totS l) (by have : ofS l mask ≤ 8796093022208 := ofS_lt; omega) (by have : totS l ≤ 8796093022208 := ofS_lt; omega) W)
  obtain ⟨m, hm⟩ : ∃ m, m = (mask.toNat : Int) := ⟨_, rfl⟩
  rw [← hm] at HO
  rw [← hm]
  have he : someS l mask = (mayB l && someN (ofS l mask) (totS l)) := rfl
  rw [he]
  generalize someN (ofS l mask) (totS l) = r at *
  generalize ofS l mask = o at *
  generalize totS l = t at *
  generalize mayB l = b at *
  clear h hm he
  go_enter Try.func26, Try.ntmps26
  go_wp2_with fail
  refine HM.out.mono ?_
  rintro e w1 ⟨rfl, g1⟩
  have G1 := Lib.hid g1
  clear g1
  cases b
  · go_wp2_with fail
    go_ret
    exact ⟨by cases r <;> rfl, G1.out⟩
  go_wp2_with fail
  refine (HO.out _ G1.out).mono ?_
  rintro e w2 ⟨rfl, g⟩
  have G2 := Lib.hid (belowT G1.out g)
  clear g
  go_wp2_with fail
  refine (HT.out _ G2.out).mono ?_
  rintro e w3 ⟨rfl, g⟩
  have G3 := Lib.hid (belowT G2.out g)
  clear g
  go_wp2_with fail
  refine (HX.out _).mono ?_
  rintro e w4 ⟨rfl, g⟩
  have G4 := Lib.hid (belowT G3.out g)
  clear g
  cases r <;> (
    go_wp2_with fail
    go_ret
    exact ⟨rfl, G4.out⟩)
theorem enters_stakeSome : ∀ args w, (callFunc 26 args).run Try.prog w = .ok (.enter 26 args) w := entersE Try.func26 (by kernel_rfl) (by kernel_rfl)

end Go.Proofs.Ytlhnjaeocoafnaa
