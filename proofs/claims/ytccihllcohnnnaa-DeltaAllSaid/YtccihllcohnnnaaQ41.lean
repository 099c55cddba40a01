/-
  Sums handed on from each node to its parent, the last node first, plainly; no word of the program.
  What comes and goes, node by node from the last one on, plainly; no word of the program.
  Package num, as other packages call it: Add, Sub, Down, over natural numbers.
-/
import Derived.Test.YtccihllcohnnnaaQ06
import Derived.Test.YtccihllcohnnnaaQ21
import Derived.Test.YtccihllcohnnnaaQ16
import Derived.Laws.Bits64b
import Derived.Laws.Externs
namespace Go.Proofs.Ytccihllcohnnnaa
set_option maxRecDepth 100000

/-- What a node has when all from m on have handed on. -/
def handW (l : List Nd) (f : Nat → Nat) (m i : Nat) : Nat := f i + sumF (fun c => if m ≤ c ∧ (nd l c).parent = (i : Int) then subT l f c else 0) l.length
theorem fn_setN {b : List UInt64} {k j x : Nat} (hk : k < b.length) (hx : x < 18446744073709551616) : fn (b.set k (UInt64.ofNat x)) j = if j = k then x else fn b j := by
  unfold fn
  rw [List.getD_eq_getElem?_getD, List.getElem?_set]
  by_cases h : k = j
  · subst h
    rw [if_pos rfl, if_pos hk, if_pos rfl]
    show (UInt64.ofNat x).toNat = x
    rw [UInt64.toNat_ofNat', Nat.mod_eq_of_lt hx]
  · rw [if_neg h, if_neg (fun e => h e.symm), List.getD_eq_getElem?_getD]
section
variable {l : List Nd} {f : Nat → Nat}
theorem hand_start (i : Nat) : handW l f l.length i = f i := by
  unfold handW
  rw [sumF_congr (g := fun _ => 0) _ (fun k hk => by rw [if_neg]; rintro ⟨h, _⟩; omega), sumF_zero, Nat.add_zero]
theorem hand_full (h : MayT l) {i m : Nat} (hi : i < l.length) (hm : m ≤ i + 1) : handW l f m i = subT l f i := by
  rw [sub_kids h f hi]
  unfold handW
  congr 1
  refine sumF_congr _ fun c hc => ?_
  by_cases e : (nd l c).parent = (i : Int)
  · rw [if_pos e, if_pos]
    refine ⟨?_, e⟩
    by_cases h0 : c = 0
    · subst h0; rw [h.first] at e; omega
    · obtain ⟨h1, h2, _⟩ := h.par (Nat.pos_of_ne_zero h0) hc
      rw [h1] at e
      omega
  · rw [if_neg e, if_neg (fun x => e x.2)]
theorem hand_le (h : MayT l) {i : Nat} (m : Nat) (hi : i < l.length) : handW l f m i ≤ subT l f i := by
  rw [sub_kids h f hi]
  unfold handW
  refine Nat.add_le_add_left (sumF_le _ fun c _ => ?_) _
  by_cases e : (nd l c).parent = (i : Int)
  · rw [if_pos e]; split <;> omega
  · rw [if_neg (fun x => e x.2)]; omega
/-- One more hands on. -/
theorem hand_step {m : Nat} (hm : m < l.length) (i : Nat) : handW l f m i = handW l f (m + 1) i + (if (nd l m).parent = (i : Int) then subT l f m else 0) := by
  have e1 : (if (nd l m).parent = (i : Int) then subT l f m else 0) = sumF (fun c => if c = m ∧ (nd l m).parent = (i : Int) then subT l f m else 0) l.length := by
    rw [sumF_one (fun c => if c = m ∧ (nd l m).parent = (i : Int) then subT l f m else 0) hm (fun k _ hk => by rw [if_neg]; rintro ⟨h, _⟩; exact hk h)]
    simp
  rw [e1]
  unfold handW
  rw [Nat.add_assoc, ← sumF_add]
  congr 1
  refine sumF_congr _ fun c _ => ?_
  by_cases hc : c = m
  · subst hc
    have h1 : ¬ c + 1 ≤ c := by omega
    by_cases e : (nd l c).parent = (i : Int)
    · simp [e, h1]
    · simp [e]
  · have : (m ≤ c) = (m + 1 ≤ c) := by rw [eq_iff_iff]; omega
    simp [hc, this]

/-- The numbers when all from m on have handed on. -/
def HandI (l : List Nd) (a : List UInt64) (m : Nat) (c : List UInt64) : Prop := c.length = l.length ∧ ∀ i, i < l.length → fn c i = handW l (fn a) m i
variable {a c : List UInt64}
theorem handI_start (h : a.length = l.length) : HandI l a l.length a := ⟨h, fun i _ => (hand_start i).symm⟩
theorem handI_zero (hm : MayT l) (h : HandI l a 1 c) : HandI l a 0 c := ⟨h.1, fun i hi => by
  rw [h.2 i hi, hand_step hm.pos i, hm.first, if_neg (by omega), Nat.add_zero]⟩
theorem handI_step (hm : MayT l) {m : Nat} (h0 : 0 < m) (hl : m < l.length) (h : HandI l a (m + 1) c) (hf : fn c (up l m) + fn c m < 18446744073709551616) : HandI l a m (c.set (up l m) (UInt64.ofNat (fn c (up l m) + fn c m))) := by
  obtain ⟨e1, e2, _⟩ := hm.par h0 hl
  refine ⟨by rw [List.length_set, h.1], fun i hi => ?_⟩
  rw [fn_setN (by rw [h.1]; omega) hf, hand_step hl i, e1, h.2 m hl, h.2 (up l m) (by omega), hand_full hm hl (Nat.le_refl _)]
  by_cases e : i = up l m
  · rw [if_pos e, if_pos (by rw [e]), e]
  · rw [if_neg e, if_neg (by omega), Nat.add_zero, h.2 i hi]
theorem handI_not (hm : MayT l) {m : Nat} (h0 : 0 < m) (hl : m < l.length) (h : HandI l a (m + 1) c) (hf : ¬ fn c (up l m) + fn c m < 18446744073709551616) : subOk l a = false := by
  obtain ⟨e1, e2, _⟩ := hm.par h0 hl
  rw [← Bool.not_eq_true]
  intro e
  have h1 := (subOk_iff.1 e).2.2 (up l m) (by omega)
  have h2 := hand_le (f := fn a) hm m (show up l m < l.length by omega)
  rw [hand_step hl, e1, if_pos rfl] at h2
  rw [h.2 m hl, h.2 (up l m) (by omega), hand_full hm hl (Nat.le_refl _)] at hf
  omega
theorem handI_end (hm : MayT l) (ha : a.length = l.length) (h : HandI l a 0 c) : subOk l a = true ∧ c = subL l a := by
  have e : ∀ i, i < l.length → fn c i = subT l (fn a) i := fun i hi => by rw [h.2 i hi, hand_full hm hi (Nat.zero_le _)]
  have ok : subOk l a = true := subOk_iff.2 ⟨hm, ha, fun i hi => by rw [← e i hi]; exact fn_lt _ _⟩
  exact ⟨ok, fn_ext (by rw [h.1, subL_len ok]) fun i hi => by rw [subL_len ok] at hi; rw [e i hi, subL_fn ok hi]⟩
end
end Go.Proofs.Ytccihllcohnnnaa
namespace Go.Proofs.Ytccihllcohnnnaa
set_option maxRecDepth 100000

theorem one_rise {a b c : Nat} (h : c ≤ b) : addOk a (b - c) = oneOk a b c ∧ addV a (b - c) = oneV a b c := by
  constructor
  · unfold addOk oneOk; congr 1; rw [eq_iff_iff]; omega
  · unfold addV oneV oneOk
    by_cases h2 : a + (b - c) < 18446744073709551616
    · rw [if_pos h2, if_pos (decide_eq_true (by omega))]; omega
    · rw [if_neg h2, if_neg (by rw [decide_eq_true_iff]; omega)]
theorem one_fall {a b c : Nat} (h : ¬ c ≤ b) (ha : a < 18446744073709551616) : lessOk a (c - b) = oneOk a b c ∧ lessV a (c - b) = oneV a b c := by
  constructor
  · unfold lessOk oneOk; congr 1; rw [eq_iff_iff]; omega
  · unfold lessV oneV oneOk
    by_cases h2 : c - b ≤ a
    · rw [if_pos h2, if_pos (decide_eq_true (by omega))]; omega
    · rw [if_neg h2, if_neg (by rw [decide_eq_true_iff]; omega)]
theorem oneV_lt (a b c : Nat) : oneV a b c < 18446744073709551616 := by
  unfold oneV oneOk
  by_cases h : c ≤ a + b ∧ a + b - c < 18446744073709551616
  · rw [if_pos (decide_eq_true h)]; exact h.2
  · rw [if_neg (by rw [decide_eq_true_iff]; exact h)]; omega
/-- The numbers when all from m on have passed. -/
def PassI (n : Nat) (a p q : List UInt64) (m : Nat) (c : List UInt64) : Prop := c.length = n ∧ (∀ i, m ≤ i → i < n → oneOk (fn a i) (fn p i) (fn q i) = true ∧ fn c i = oneV (fn a i) (fn p i) (fn q i)) ∧ ∀ i, i < m → i < n → fn c i = fn a i
section
variable {n : Nat} {a p q c : List UInt64}
theorem passI_start (h : a.length = n) : PassI n a p q n a := ⟨h, fun i h1 h2 => by omega, fun _ _ _ => rfl⟩
theorem passI_step {m : Nat} (hm : m < n) (h : PassI n a p q (m + 1) c) (ok : oneOk (fn c m) (fn p m) (fn q m) = true) : PassI n a p q m (c.set m (UInt64.ofNat (oneV (fn c m) (fn p m) (fn q m)))) := by
  have e := h.2.2 m (by omega) hm
  have hv := oneV_lt (fn c m) (fn p m) (fn q m)
  refine ⟨by rw [List.length_set, h.1], fun i h1 h2 => ?_, fun i h1 h2 => ?_⟩
  · rw [fn_setN (by rw [h.1]; exact hm) hv]
    by_cases e2 : i = m
    · subst e2
      rw [if_pos rfl]
      rw [e] at ok ⊢
      exact ⟨ok, rfl⟩
    · rw [if_neg e2]
      exact h.2.1 i (by omega) h2
  · rw [fn_setN (by rw [h.1]; exact hm) hv, if_neg (by omega)]
    exact h.2.2 i (by omega) h2
theorem passI_not {m : Nat} (hm : m < n) (h : PassI n a p q (m + 1) c) (ok : oneOk (fn c m) (fn p m) (fn q m) = false) : oneOk (fn a m) (fn p m) (fn q m) = false := by
  rw [← h.2.2 m (by omega) hm]; exact ok
end
section
variable {l : List Nd} {w pl mi c : List UInt64}
theorem pass_sum (hp : subOk l pl = true) (hq : subOk l mi = true) (hw : w.length = l.length) (h : ∀ i, i < l.length → oneOk (fn w i) (fn (subL l pl) i) (fn (subL l mi) i) = true) : passOk l w pl mi = true :=
  passOk_iff.2 ⟨hp, hq, hw, fun i hi => by
    have := h i hi
    rw [subL_fn hp hi, subL_fn hq hi] at this
    exact of_decide_eq_true this⟩
theorem pass_not (hp : subOk l pl = true) (hq : subOk l mi = true) {i : Nat} (hi : i < l.length) (h : oneOk (fn w i) (fn (subL l pl) i) (fn (subL l mi) i) = false) : passOk l w pl mi = false := by
  rw [← Bool.not_eq_true]
  intro e
  have := (passOk_iff.1 e).2.2.2 i hi
  rw [subL_fn hp hi, subL_fn hq hi] at h
  exact of_decide_eq_false h this
theorem passI_end (hp : subOk l pl = true) (hq : subOk l mi = true) (hw : w.length = l.length) (h : PassI l.length w (subL l pl) (subL l mi) 0 c) : passOk l w pl mi = true ∧ c = passL l w pl mi := by
  have ok : passOk l w pl mi = true := pass_sum hp hq hw fun i hi => (h.2.1 i (Nat.zero_le _) hi).1
  refine ⟨ok, fn_ext (by rw [h.1, passL_len ok]) fun i hi => ?_⟩
  rw [passL_len ok] at hi
  obtain ⟨h1, h2⟩ := h.2.1 i (Nat.zero_le _) hi
  rw [h2, passL_fn ok hi]
  unfold oneV passF
  rw [if_pos h1, subL_fn hp hi, subL_fn hq hi]
end
end Go.Proofs.Ytccihllcohnnnaa
namespace Go.Proofs.Ytccihllcohnnnaa
open Go.RowKit
set_option maxRecDepth 100000

theorem add64_nat (x y : Nat) (w : World) : (callFunc 65 #[.int .u64 (x : Int), .int .u64 (y : Int), .int .u64 0]).run Try.prog w =
    .ok (.value (.tuple #[.int .u64 (((x + y) % 18446744073709551616 : Nat) : Int), .int .u64 (((x + y) / 18446744073709551616 : Nat) : Int)])) w := by
  rw [run_callFunc_extern Try.func65 (by kernel_rfl) (by kernel_rfl) (by kernel_rfl) (e := add64Entry) (by kernel_rfl), run_add64 (x : Int) (y : Int) 0 (by omega) (by omega) (by omega) (by omega)]
  simp [Result.andThen]

set_option maxHeartbeats 400000 in
theorem told_any (n : Int) (b : Bool) (w : World) :
    Calls Try.prog 61 #[.agg #[.int .u64 n, .bool b]] w fun e w' => e = .returned (.tuple #[.int .u64 (if b = true then n else 0), .bool b]) ∧ Below w.heap.size w w' := by
  cases b
  · go_enter Try.func61, Try.ntmps61
    go_wp2
    go_ret2
    exact ⟨rfl, (Below.refl _ _).alloc (Nat.le_refl _) _⟩
  · go_enter Try.func61, Try.ntmps61
    go_wp2
    go_ret2
    exact ⟨rfl, (Below.refl _ _).alloc (Nat.le_refl _) _⟩

@[go_sem] theorem eqWide (a b c d : Int) (w : World) : (Op.equalIn 10000 98 (.agg #[.int .u64 a, .int .u64 b]) (.agg #[.int .u64 c, .int .u64 d])).run Try.prog w = .ok (a == c && b == d) w := by
  have u3 := Try.underlying26
  have a3 := Try.isAgg26
  have z3 := Try.sizeOf26
  rw [show (10000 : Nat) = 9999 + 1 from rfl, Op.equalIn]
  simp only [Sem.run_bind, run_underlying Try.underlying98, Result.andThen_ok]
  simp only [Std.Legacy.Range.forIn_eq_forIn_range', Std.Legacy.Range.size, Nat.sub_zero, Nat.add_sub_cancel, Nat.div_one, List.range'_succ, List.range'_zero, List.forIn_cons, List.forIn_nil]
  go_simp
  by_cases h1 : a = c <;> by_cases h2 : b = d <;> simp [h1, h2]

set_option maxHeartbeats 400000 in
theorem narrow_yes (l : Int) (w : World) :
    Calls Try.prog 66 #[.agg #[.int .u64 0, .int .u64 l]] w fun e w' => e = .returned (.agg #[.int .u64 l, .bool true]) ∧ ∃ c1 c2, w' = (w.alloc (.cells c1 98)).alloc (.cells c2 91) := by
  go_enter Try.func66, Try.ntmps66
  go_wp2
  exact bodyPost_ret (v := .agg #[.int .u64 l, .bool true]) (by simp [results, Try.results66, go_sem]) rfl ⟨rfl, _, _, rfl⟩

set_option maxHeartbeats 400000 in
theorem narrow_no (h l : Int) (hh : (h == 0) = false) (w : World) :
    Calls Try.prog 66 #[.agg #[.int .u64 h, .int .u64 l]] w fun e w' => e = .returned (.agg #[.int .u64 l, .bool false]) ∧ ∃ c1 c2, w' = (w.alloc (.cells c1 98)).alloc (.cells c2 91) := by
  go_enter Try.func66, Try.ntmps66
  go_wp2
  exact bodyPost_ret (v := .agg #[.int .u64 l, .bool false]) (by simp [results, Try.results66, go_sem]) rfl ⟨rfl, _, _, rfl⟩

set_option maxHeartbeats 400000 in
theorem numSum (a b : Nat) (ha : a < 18446744073709551616) (hb : b < 18446744073709551616) (w : World) :
    Calls Try.prog 62 #[.int .u64 (a : Int), .int .u64 (b : Int)] w fun e w' => e = .returned (.agg #[.int .u64 (((a + b) % 18446744073709551616 : Nat) : Int), .bool (addOk a b)]) ∧ Below w.heap.size w w' := by
  have e1 := fun w : World => add64_nat a b w
  obtain ⟨lo, hlo⟩ : ∃ x, x = (a + b) % 18446744073709551616 := ⟨_, rfl⟩
  obtain ⟨hi, hhi⟩ : ∃ x, x = (a + b) / 18446744073709551616 := ⟨_, rfl⟩
  rw [← hlo] at e1 ⊢
  rw [← hhi] at e1
  by_cases h : a + b < 18446744073709551616
  · rw [show addOk a b = true from decide_eq_true h]
    obtain rfl : hi = 0 := by omega
    clear h ha hb hlo hhi
    go_enter Try.func62, Try.ntmps62
    go_wp2_with fail
    refine (narrow_yes _ _).mono ?_
    rintro e w1 ⟨rfl, c1, c2, rfl⟩
    go_wp2_with fail
    exact bodyPost_ret (v := .agg #[.int .u64 (lo : Int), .bool true]) (by simp [results, Try.results62, go_sem]) rfl ⟨rfl, belowT (belowT below1 below1) below1⟩
  · rw [show addOk a b = false from decide_eq_false h]
    have t0 : ((hi : Int) == 0) = false := beq_eq_false_iff_ne.2 (by omega)
    have T0 := Lib.hid t0
    clear h ha hb hlo hhi t0
    go_enter Try.func62, Try.ntmps62
    go_wp2_with fail
    refine (narrow_no _ _ T0.out _).mono ?_
    rintro e w1 ⟨rfl, c1, c2, rfl⟩
    go_wp2_with fail
    exact bodyPost_ret (v := .agg #[.int .u64 (lo : Int), .bool false]) (by simp [results, Try.results62, go_sem]) rfl ⟨rfl, belowT (belowT below1 below1) below1⟩

set_option maxHeartbeats 400000 in
theorem numDiff (a b : Nat) (w : World) :
    Calls Try.prog 60 #[.int .u64 (a : Int), .int .u64 (b : Int)] w fun e w' => e = .returned (.agg #[.int .u64 (IntKind.u64.wrap ((a : Int) - (b : Int))), .bool (lessOk a b)]) ∧ Below w.heap.size w w' := by
  have t0 : decide ((b : Int) ≤ (a : Int)) = lessOk a b := by unfold lessOk; congr 1; rw [eq_iff_iff]; omega
  have t0' : decide (b ≤ a) = lessOk a b := rfl
  obtain ⟨ok, hok⟩ : ∃ x, x = lessOk a b := ⟨_, rfl⟩
  obtain ⟨d, hd⟩ : ∃ d, d = IntKind.u64.wrap ((a : Int) - (b : Int)) := ⟨_, rfl⟩
  rw [← hok] at t0 t0' ⊢
  rw [← hd]
  have HD := Lib.hid hd
  clear hok hd
  go_enter Try.func60, Try.ntmps60
  go_wp2_with fail
  (try rw [← HD.out])
  exact bodyPost_ret (v := .agg #[.int .u64 d, .bool ok]) (by simp [results, Try.results60, go_sem, HD.out]) rfl ⟨rfl, below1⟩

set_option maxHeartbeats 400000 in
/-- num.Add. -/
theorem numAdd (a b : Nat) (ha : a < 18446744073709551616) (hb : b < 18446744073709551616) (w : World) :
    Calls Try.prog 52 #[.int .u64 (a : Int), .int .u64 (b : Int)] w fun e w' => e = .returned (.tuple #[.int .u64 (addV a b : Int), .bool (addOk a b)]) ∧ Below w.heap.size w w' := by
  have c := Lib.hid (numSum a b ha hb w)
  have d := Lib.hid (told_any (((a + b) % 18446744073709551616 : Nat) : Int) (addOk a b))
  have e1 : (if addOk a b = true then (((a + b) % 18446744073709551616 : Nat) : Int) else 0) = (addV a b : Int) := by
    unfold addOk addV
    by_cases h : a + b < 18446744073709551616
    · rw [if_pos h, if_pos (decide_eq_true h)]; omega
    · rw [if_neg h, if_neg (by rw [decide_eq_true_iff]; exact h)]; rfl
  rw [e1] at d
  obtain ⟨m, hm⟩ : ∃ m, m = (a + b) % 18446744073709551616 := ⟨_, rfl⟩
  obtain ⟨v, hv⟩ : ∃ v, v = addV a b := ⟨_, rfl⟩
  obtain ⟨ok, hok⟩ : ∃ x, x = addOk a b := ⟨_, rfl⟩
  rw [← hm, ← hok] at c
  rw [← hm, ← hv, ← hok] at d
  rw [← hv, ← hok]
  clear e1 ha hb hm hv hok
  go_enter Try.func52, Try.ntmps52
  go_wp2_with fail
  refine c.out.mono ?_
  rintro e w1 ⟨rfl, h1⟩
  go_wp2_with fail
  refine (d.out w1).mono ?_
  rintro e w2 ⟨rfl, h2⟩
  go_wp2_with fail
  go_ret2
  exact ⟨rfl, belowT h1 h2⟩
theorem enters_numAdd : ∀ args w, (callFunc 52 args).run Try.prog w = .ok (.enter 52 args) w := entersE Try.func52 (by kernel_rfl) (by kernel_rfl)

theorem less_wrap (a b : Nat) (ha : a < 18446744073709551616) : (if lessOk a b = true then IntKind.u64.wrap ((a : Int) - (b : Int)) else 0) = (lessV a b : Int) := by
  unfold lessOk lessV
  by_cases h : b ≤ a
  · rw [if_pos h, if_pos (decide_eq_true h), IntKind.wrap_u64]; omega
  · rw [if_neg h, if_neg (by rw [decide_eq_true_iff]; exact h)]; rfl
set_option maxHeartbeats 400000 in
/-- num.Sub. -/
theorem numSub (a b : Nat) (ha : a < 18446744073709551616) (w : World) :
    Calls Try.prog 51 #[.int .u64 (a : Int), .int .u64 (b : Int)] w fun e w' => e = .returned (.tuple #[.int .u64 (lessV a b : Int), .bool (lessOk a b)]) ∧ Below w.heap.size w w' := by
  have c := Lib.hid (numDiff a b w)
  have d := Lib.hid (told_any (IntKind.u64.wrap ((a : Int) - (b : Int))) (lessOk a b))
  rw [less_wrap a b ha] at d
  obtain ⟨m, hm⟩ : ∃ m, m = IntKind.u64.wrap ((a : Int) - (b : Int)) := ⟨_, rfl⟩
  obtain ⟨v, hv⟩ : ∃ v, v = lessV a b := ⟨_, rfl⟩
  obtain ⟨ok, hok⟩ : ∃ x, x = lessOk a b := ⟨_, rfl⟩
  rw [← hm, ← hok] at c
  rw [← hm, ← hv, ← hok] at d
  rw [← hv, ← hok]
  clear ha hm hv hok
  go_enter Try.func51, Try.ntmps51
  go_wp2_with fail
  refine c.out.mono ?_
  rintro e w1 ⟨rfl, h1⟩
  go_wp2_with fail
  refine (d.out w1).mono ?_
  rintro e w2 ⟨rfl, h2⟩
  go_wp2_with fail
  go_ret2
  exact ⟨rfl, belowT h1 h2⟩
theorem enters_numSub : ∀ args w, (callFunc 51 args).run Try.prog w = .ok (.enter 51 args) w := entersE Try.func51 (by kernel_rfl) (by kernel_rfl)
end Go.Proofs.Ytccihllcohnnnaa
