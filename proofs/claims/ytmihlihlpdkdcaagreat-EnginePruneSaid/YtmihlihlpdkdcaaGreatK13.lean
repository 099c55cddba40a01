import Derived.Test.YtmihlihlpdkdcaaGreatK11
import Derived.Test.YtmihlihlpdkdcaaGreatQ08
import Derived.Test.YtmihlihlpdkdcaaGreatQ03
import Derived.Test.YtmihlihlpdkdcaaGreatQ06
import Derived.Laws.ShiftsVarLaws
import Derived.Laws.Bits64b
import Derived.Laws.BitsAllLaws
import Derived.Test.YtmihlihlpdkdcaaGreatK12
import Derived.Test.YtmihlihlpdkdcaaGreatQ07
import Derived.Test.YtmihlihlpdkdcaaGreatQ01
import Derived.Test.YtmihlihlpdkdcaaGreatQ09
import Derived.Deep.Cut
import Derived.Laws.Cover3
namespace Go.Proofs.YtmihlihlpdkdcaaGreat
open Go.RowKit
set_option maxRecDepth 200000
set_option maxHeartbeats 64000000
theorem zwj {cnt : Lk → Bool} {ls : List Lk} : ∀ (f : Nat) (js : List Ck), (zfv cnt ls f js).length ≤ js.length + f
 | 0, js => Nat.le_refl _
 | f + 1, js => by
  cases e : zcv cnt ls js with
  | none => simp only [zfv, e]; omega
  | some k =>
   simp only [zfv, e]
   have := zwj (cnt := cnt) (ls := ls) f (js ++ [k.t])
   rw [List.length_append, List.length_singleton] at this
   omega
theorem zvi {l : List Nd} {ls : List Lk} {bal : List UInt64} {js : List Ck} : (zda l ls bal js).length ≤ js.length + ls.length := by
 unfold zda
 split
 ·
  exact zwj _ _
 ·
  omega
section
variable {e : Eg}
theorem zub (h : MayS' e) (hj : e.j.length ≤ 1000) : zbz e := by
 have h1 := (zfl.1 h.bal).2.1
 have h2 := (zdy.1 h.late).1
 have h3 := (zex.1 h.k).2
 have h4 := h.t.le
 exact ⟨by omega, by omega, by rw [h.vl]; omega, by rw [h.w, zj8 h.fit]; omega, by omega, by omega, hj⟩
theorem yny (h : MayS' e) {a : Aa} (hf : fitG e a = 0) : (ctG e a).j.length ≤ e.j.length + 16 := by
 have hg := ct_G h hf
 unfold ctG at hg ⊢
 split at hg
 ·
  rename_i he
  rw [if_pos he]
  have h3 := (zex.1 hg.k).2
  have := zvi (l := e.t) (ls := ctK e a) (bal := e.bal) (js := e.j)
  have h3' : (ctK e a).length ≤ 16 := h3
  show (zda e.t (ctK e a) e.bal e.j).length ≤ _
  omega
 ·
  rename_i he; rw [if_neg he]; omega
theorem ypi (h : MayS' e) (a : Aa) : (oneG e a).j.length ≤ e.j.length + 16 := by
 unfold oneG
 split
 ·
  rename_i hf; exact yny h hf
 ·
  omega
theorem z69 (xs : List Aa) : ∀ {e : Eg}, MayS' e → (xs.foldl oneG e).j.length ≤ e.j.length + 16 * xs.length := by
 induction xs with
 | nil => intro e _; exact Nat.le_refl _
 | cons a xs ih =>
  intro e h
  have h1 := ypi h a
  have h2 := ih (yvz h a)
  simp only [List.foldl_cons, List.length_cons]
  omega
theorem z7g (h : MayS' e) (c : Cmd) : (doG e c).j.length ≤ e.j.length + 96 := by
 have h6 := (zdy.1 h.late).1
 cases c with
 | block b => show (blkG e b).j.length ≤ _; unfold blkG; split <;> (show e.j.length ≤ _; omega)
 | att a =>
  show (attG e a).j.length ≤ _
  unfold attG
  split
  ·
   rename_i hf
   split
   ·
    have := yny h hf.2; omega
   ·
    show e.j.length ≤ _; omega
  ·
   omega
 | tick =>
  show (zd2 e).j.length ≤ _
  unfold zd2
  split
  ·
   rename_i he
   have h1 := z69 (dueL e.late (e.now.toNat + 1)) (up_G h (zkr he).2)
   have h2 := z65 (l := e.late) (now := e.now.toNat + 1)
   have h3 : (upG e).j.length = e.j.length := rfl
   omega
  ·
   omega
 | prune =>
  show (prG e).j.length ≤ _
  unfold prG
  split
  ·
   show (e.j.filter _).length ≤ _
   have := List.length_filter_le (zqn (prT e) e.fin) e.j
   omega
  ·
   omega
 | form => show e.j.length ≤ _; omega
 | other => show e.j.length ≤ _; omega
theorem zn6 (h : MayS' e) (hj : e.j.length ≤ 24) (c : Cmd) : zbz (doG e c) := zub (do_G h c) (by have := z7g h c; omega)
end
theorem u64_of {n : Int} (h : (Lit.int .u64 n).wf = true) : ∃ q : UInt64, n = (q.toNat : Int) := by
 have hb : (decide (IntKind.u64.min ≤ n) && decide (n ≤ IntKind.u64.max)) = true := h
 rw [Bool.and_eq_true, decide_eq_true_eq, decide_eq_true_eq, show IntKind.u64.min = 0 from rfl, show IntKind.u64.max = 18446744073709551615 from rfl] at hb
 refine ⟨UInt64.ofNat n.toNat, ?_⟩
 rw [UInt64.toNat_ofNat', Nat.mod_eq_of_lt (by simp; omega)]
 omega
def ytp : Prop := ∀ (v : Value) (l : List UInt64) (w : World), SlE Enum w v l → Calls Tryz.prog 31 #[v] w fun e w' => e = .returned (.bool (mayB l)) ∧ Below w.heap.size w w'
def yue : Prop := ∀ (v : Int) (w : World), Calls Tryz.prog 144 #[.int .i64 v] w fun e w' => e = .returned (.int .u64 (bitN v : Int)) ∧ Below w.heap.size w w'
theorem zna : yue := fun v w => by
 by_cases h0 : v < 0
 ·
  have t0 : decide (v < 0) = true := decide_eq_true h0
  rw [show bitN v = 0 from if_neg (by omega)]
  clear h0
  go_enter Tryz.func144, Tryz.ntmps144
  go_wp2_with fail
  go_ret
  exact ⟨rfl, Below.refl _ _⟩
 ·
  have t0 : decide (v < 0) = false := decide_eq_false h0
  by_cases h1 : 64 ≤ v
  ·
   have t1 : decide (64 ≤ v) = true := decide_eq_true h1
   rw [show bitN v = 0 from if_neg (by omega)]
   clear h0 h1
   go_enter Tryz.func144, Tryz.ntmps144
   go_wp2_with fail
   go_ret
   exact ⟨rfl, Below.refl _ _⟩
  ·
   have t1 : decide (64 ≤ v) = false := decide_eq_false h1
   obtain ⟨n, rfl⟩ : ∃ n : Nat, v = n := ⟨v.toNat, by omega⟩
   have hn : n < 64 := by omega
   rw [zq9 hn]
   have HX : Hid (IntKind.u64.wrap (1 * 2 ^ min ((n : Int)).toNat 64) = ((2 ^ n : Nat) : Int)) := by
    show _ = _
    have e : min ((n : Int)).toNat 64 = n := by omega
    have : 2 ^ n ≤ 2 ^ 63 := Nat.pow_le_pow_right (by omega) (by omega)
    rw [e, Int.one_mul, show ((2 : Int) ^ n) = ((2 ^ n : Nat) : Int) by simp, IntKind.wrap_u64]
    generalize 2 ^ n = x at *
    omega
   have h2 : (0 : Int) ≤ (n : Int) := by omega
   clear h0 h1 hn
   go_enter Tryz.func144, Tryz.ntmps144
   go_wp2_with fail
   go_ret
   exact ⟨by have := HX.out; simpa using this, Below.refl _ _⟩
theorem zeu : ∀ args w, (callFunc 144 args).run Tryz.prog w = .ok (.enter 144 args) w := zbb Tryz.func144 (by kernel_rfl) (by kernel_rfl)
def mxU (f : Nat → Nat) : Nat → Nat
 | 0 => 0
 | n + 1 => if mxU f n < f n then f n else mxU f n
theorem yom (f : Nat → Nat) (B : Nat) : ∀ n, mxU f n ≤ B ↔ ∀ i, i < n → f i ≤ B
 | 0 => ⟨fun _ i hi => absurd hi (Nat.not_lt_zero _), fun _ => Nat.zero_le _⟩
 | n + 1 => by
  have ih := yom f B n
  simp only [mxU]
  constructor
  ·
   intro h i hi
   split at h
   ·
    rename_i hc
    rcases Nat.lt_succ_iff_lt_or_eq.1 hi with h1 | rfl
    ·
     exact ih.1 (by omega) i h1
    ·
     exact h
   ·
    rename_i hc
    rcases Nat.lt_succ_iff_lt_or_eq.1 hi with h1 | rfl
    ·
     exact ih.1 h i h1
    ·
     omega
  ·
   intro h
   have h1 := ih.2 (fun i hi => h i (by omega))
   have h2 := h n (by omega)
   split <;> omega
theorem yex {f : Nat → Nat} {n : Nat} (h : mxU f n < f n) : mxU f (n + 1) = f n := if_pos h
theorem yn6 {f : Nat → Nat} {n : Nat} (h : ¬ mxU f n < f n) : mxU f (n + 1) = mxU f n := if_neg h
theorem z3q (p : Option Addr) (n cp : Nat) (l : List UInt64) (w : World) (h : SlE Enum w (.slice p n cp) l) (hl : l.length = n) (h1 : 1 ≤ n) (hn : n ≤ 1000) :
  Calls Tryz.prog 70 #[.slice p n cp] w fun e w' => e = .returned (.int .u64 (mxU (fn l) n : Int)) ∧ Below w.heap.size w w' := by
 have HS := Lib.hid h
 have HL := Lib.hid hl
 have HN := Lib.hid hn
 have H1 := Lib.hid h1
 have HZ : Hid (mxU (fn l) 1 = fn l 0) := by
  show mxU (fn l) 1 = fn l 0
  by_cases h0 : mxU (fn l) 0 < fn l 0
  ·
   exact yex h0
  ·
   rw [yn6 h0]; have : mxU (fn l) 0 = 0 := rfl; omega
 obtain ⟨b1, o1, rfl, q1, x1⟩ := zcz h (by omega)
 have y1 := zca x1 (i := 0) (by omega)
 have t0 : decide ((n : Int) < 1) = false := decide_eq_false (by omega)
 have t0' : decide (n < 1) = false := decide_eq_false (by omega)
 have t0'' : decide (n = 0) = false := decide_eq_false (by omega)
 have i1 : (0 : Int) < (n : Int) := by omega
 have i1' : 0 < n := by omega
 clear h hl hn h1 x1 q1
 simp only [Nat.add_zero] at y1
 go_enter Tryz.func70, Tryz.ntmps70
 go_wp2_with fail
 clear y1 t0 t0' t0'' i1 i1'
 go_loopw [3, 4] (fun m i wr => ∃ j : Nat, 1 ≤ j ∧ j ≤ n ∧ i = .int .i64 (j : Int) ∧ m = .int .u64 (mxU (fn l) j : Int) ∧ wr = w) (fun _ i _ => n - (intOf i).toNat)
 case atStart => exact ⟨1, Nat.le_refl _, H1.out, rfl, by rw [HZ.out], rfl⟩
 case round =>
  obtain ⟨j, hj1, hj, rfl, rfl, rfl⟩ := hrel
  have HJ1 := Lib.hid hj1
  clear hj1
  by_cases hlt : j < n
  ·
   have i0 : (0 : Int) ≤ (j : Int) := by omega
   have i1 : (j : Int) < (n : Int) := by omega
   have u1 : (j : Int) + 1 < 10000 := by have := HN.out; omega
   have d0 : decide ((j : Int) < (n : Int)) = true := decide_eq_true i1
   have d0' : decide (j < n) = true := decide_eq_true hlt
   obtain ⟨b1, o1, e1, q1, x1⟩ := zcz HS.out (by have := HL.out; omega)
   cases e1
   have y1 := zca x1 (i := j) (by have := HL.out; omega)
   have HLT := Lib.hid hlt
   by_cases hc : mxU (fn l) j < fn l j
   ·
    have HX := Lib.hid (yex hc)
    obtain ⟨x, hx⟩ : ∃ x, x = mxU (fn l) j := ⟨_, rfl⟩
    obtain ⟨y, hy⟩ : ∃ y, y = fn l j := ⟨_, rfl⟩
    rw [← hx] at hc
    rw [← hx]
    rw [← hy] at hc y1 HX
    have c1 : (x : Int) < (y : Int) := by omega
    have HC := Lib.hid hc
    clear hlt x1 q1 hx hy
    go_wp2_with fail
    go_roundw
    case rel => exact ⟨j + 1, by have := HJ1.out; omega, HLT.out, by go_num, by rw [HX.out], by first | rfl | trivial⟩
    case measure => simp [intOf]; have := HLT.out; omega
   ·
    have HX := Lib.hid (yn6 hc)
    obtain ⟨x, hx⟩ : ∃ x, x = mxU (fn l) j := ⟨_, rfl⟩
    obtain ⟨y, hy⟩ : ∃ y, y = fn l j := ⟨_, rfl⟩
    rw [← hx] at hc HX
    rw [← hx]
    rw [← hy] at hc y1
    have c1 : ¬ (x : Int) < (y : Int) := by omega
    have HC := Lib.hid hc
    clear hlt x1 q1 hx hy
    go_wp2_with fail
    go_roundw
    case rel => exact ⟨j + 1, by have := HJ1.out; omega, HLT.out, by go_num, by rw [HX.out], by first | rfl | trivial⟩
    case measure => simp [intOf]; have := HLT.out; omega
  ·
   obtain rfl : j = n := by omega
   clear hlt
   go_wp2_with fail
   go_ret
   exact ⟨rfl, Below.refl _ _⟩
theorem zo8 (p : Option Addr) (n cp : Nat) (l : List UInt64) (w : World) (h : SlE Enum w (.slice p n cp) l) (hl : l.length = n) :
  Calls Tryz.prog 31 #[.slice p n cp] w fun e w' => e = .returned (.bool (mayB l)) ∧ Below w.heap.size w w' := by
 by_cases h0 : 0 < n
 ·
  have a0 : decide ((0 : Int) < (n : Int)) = true := decide_eq_true (by omega)
  have a0' : decide (0 < n) = true := decide_eq_true h0
  by_cases h8 : n ≤ 8
  ·
   have a8 : decide ((n : Int) ≤ 8) = true := decide_eq_true (by omega)
   have a8' : decide (n ≤ 8) = true := decide_eq_true h8
   have HM := Lib.hid (z3q p n cp l w h hl (by omega) (by omega))
   have HE : Hid (mayB l = decide (mxU (fn l) n ≤ 1099511627776)) := by
    show _ = _
    rw [Bool.eq_iff_iff, zfl, decide_eq_true_iff, yom, hl]
    exact ⟨fun h => h.2.2, fun h => ⟨by omega, h8, h⟩⟩
   generalize mxU (fn l) n = m at *
   obtain ⟨r, hr⟩ : ∃ r, r = decide (m ≤ 1099511627776) := ⟨_, rfl⟩
   have d0 : decide ((m : Int) ≤ 1099511627776) = r := by rw [hr]; congr 1; rw [eq_iff_iff]; omega
   have d0' : decide (m ≤ 1099511627776) = r := hr.symm
   rw [HE.out, d0']
   clear h0 h8 h hl hr HE
   go_enter Tryz.func31, Tryz.ntmps31
   go_wp2_with fail
   refine HM.out.mono ?_
   rintro e w1 ⟨rfl, g⟩
   go_wp2_with fail
   go_ret
   exact ⟨rfl, g⟩
  ·
   have a8 : decide ((n : Int) ≤ 8) = false := decide_eq_false (by omega)
   have a8' : decide (n ≤ 8) = false := decide_eq_false h8
   rw [show mayB l = false by rw [← Bool.not_eq_true, zfl]; omega]
   clear h0 h8 h hl
   go_enter Tryz.func31, Tryz.ntmps31
   go_wp2_with fail
   go_ret
   exact ⟨rfl, Below.refl _ _⟩
 ·
  obtain rfl : n = 0 := by omega
  rw [show mayB l = false by rw [← Bool.not_eq_true, zfl]; omega]
  clear h0 h hl
  go_enter Tryz.func31, Tryz.ntmps31
  go_wp2_with fail
  go_ret
  exact ⟨rfl, Below.refl _ _⟩
theorem zq0 : ytp := fun v l w h => by
 have k := h
 obtain ⟨p, cp, rfl, _⟩ := zaj h
 exact zo8 p _ cp l w k rfl
def yvf (L : List Nd) (ok : Bool) (w : World) (e : Ending) (w' : World) : Prop := ∃ s : SlV, e = .returned (.tuple #[.agg (tr ⟨s⟩), .bool ok]) ∧ SlE Ene w' (sv s) L ∧ Below w.heap.size w w'
def newN (r : Rt) (q : UInt64) : Nd := ⟨r, -1, q, 0⟩
def yds (q : UInt64) : Bool := decide (q.toNat ≤ 1099511627776)
def newL (r : Rt) (q : UInt64) : List Nd := if yds q = true then [newN r q] else []
theorem yr8 (r : Rt) (q : UInt64) (w : World) :
  Calls Tryz.prog 32 #[.agg (rc r), .int .u64 (q.toNat : Int)] w (yvf (newL r q) (yds q) w) := by
 by_cases hq : q.toNat ≤ 1099511627776
 ·
  have e : yds q = true := decide_eq_true hq
  have HL : Hid (newL r q = [newN r q]) := by unfold newL; rw [e, if_pos rfl]; exact Lib.hid rfl
  rw [e]
  have t1 : decide ((1099511627776 : Int) < (q.toNat : Int)) = false := by rw [decide_eq_false_iff_not]; omega
  have t1' : decide (1099511627776 < q.toNat) = false := by rw [decide_eq_false_iff_not]; omega
  clear hq e
  go_enter Tryz.func32, Tryz.ntmps32
  go_wp2_with fail
  exact bodyPost_ret (v := .tuple #[.agg (tr ⟨⟨some ⟨w.heap.size + 1 + 1, 0, none⟩, 1, 1⟩⟩), .bool true]) (zal Tryz.isAgg28 Tryz.sizeOf28 _ 4 5 rfl _ _ _ _ _ rfl rfl (by go_simp)) rfl ⟨⟨some ⟨w.heap.size + 1 + 1, 0, none⟩, 1, 1⟩, rfl, by rw [HL.out]; exact ze9 _ [newN r q] 1 _ _ _ rfl (by simp) (by simp [zan, Ene, zpt, newN, zne]), zad (zad below1 below1) below1⟩
 ·
  have e : yds q = false := decide_eq_false hq
  have HL : Hid (newL r q = []) := by unfold newL; rw [e, if_neg Bool.false_ne_true]; exact Lib.hid rfl
  rw [e]
  have t1 : decide ((1099511627776 : Int) < (q.toNat : Int)) = true := by rw [decide_eq_true_iff]; omega
  have t1' : decide (1099511627776 < q.toNat) = true := by rw [decide_eq_true_iff]; omega
  clear hq e
  go_enter Tryz.func32, Tryz.ntmps32
  go_wp2_with fail
  exact bodyPost_ret (v := .tuple #[.agg (tr ⟨⟨none, 0, 0⟩⟩), .bool false]) (zal Tryz.isAgg28 Tryz.sizeOf28 _ 4 5 rfl _ _ _ _ _ rfl rfl (by go_simp; rfl)) rfl ⟨⟨none, 0, 0⟩, rfl, by rw [HL.out]; exact zbt _ _ _ _, zad below1 below1⟩
theorem yb5 (mask : UInt64) {j : Nat} (h : j < 64) : bits .and .u64 (mask.toNat : Int) (bitN (j : Int) : Int) = ((mask.toNat &&& 2 ^ j : Nat) : Int) := by
 have : 2 ^ j ≤ 2 ^ 63 := Nat.pow_le_pow_right (by omega) (by omega)
 rw [zq9 h, bits_and_u64_nat _ _ mask.toNat_lt (by omega)]
theorem yqt (x j : Nat) : x &&& 2 ^ j = if x.testBit j = true then 2 ^ j else 0 := by
 refine Nat.eq_of_testBit_eq fun i => ?_
 rw [Nat.testBit_and, Nat.testBit_two_pow]
 by_cases e : j = i
 ·
  subst e
  cases h : x.testBit j <;> simp
 ·
  rw [decide_eq_false e, Bool.and_false]
  split
  ·
   rw [Nat.testBit_two_pow, decide_eq_false e]
  ·
   simp
theorem ygs (mask : UInt64) (j : Nat) : (((mask.toNat &&& 2 ^ j : Nat) : Int) != 0) = hasB mask j := by
 unfold hasB
 rw [yqt]
 have hp := Nat.two_pow_pos j
 by_cases h : mask.toNat.testBit j = true
 ·
  rw [if_pos h, h, bne_iff_ne]
  generalize 2 ^ j = x at *
  omega
 ·
  rw [if_neg h, eq_false_of_ne_true h]
  rfl
def clrU (x j : Nat) : Nat := x >>> j <<< j
theorem ztm (x j i : Nat) : (clrU x j).testBit i = (decide (j ≤ i) && x.testBit i) := by
 unfold clrU
 rw [Nat.testBit_shiftLeft, Nat.testBit_shiftRight]
 by_cases h : j ≤ i
 ·
  simp only [ge_iff_le, decide_eq_true h]; rw [show j + (i - j) = i by omega]
 ·
  simp only [ge_iff_le, decide_eq_false h, Bool.false_and]
theorem ykt (x : Nat) : clrU x 0 = x := Nat.eq_of_testBit_eq fun i => by rw [ztm, decide_eq_true (Nat.zero_le _), Bool.true_and]
theorem yv3 (x j : Nat) : clrU x j ≤ x := by
 unfold clrU
 rw [Nat.shiftRight_eq_div_pow, Nat.shiftLeft_eq]
 exact Nat.div_mul_le_self _ _
theorem ykx {x j : Nat} (hx : x < 18446744073709551616) (h : j < 64) : bits .andNot .u64 (clrU x j : Int) (bitN (j : Int) : Int) = (clrU x (j + 1) : Int) := by
 have h2 : 2 ^ j ≤ 2 ^ 63 := Nat.pow_le_pow_right (by omega) (by omega)
 have h3 := yv3 x j
 rw [zq9 h, u64_andNot_nat _ _ (by omega) (by omega)]
 congr 1
 refine Nat.eq_of_testBit_eq fun i => ?_
 rw [Nat.testBit_and, ztm, ztm, show 18446744073709551615 - 2 ^ j = 2 ^ 64 - (2 ^ j + 1) by omega, Nat.testBit_two_pow_sub_succ (by omega), Nat.testBit_two_pow]
 by_cases h4 : i < 64
 ·
  rw [decide_eq_true h4, Bool.true_and]
  by_cases e : j = i
  ·
   subst e; rw [decide_eq_false (show ¬ j + 1 ≤ j by omega)]; simp
  ·
   rw [decide_eq_false e]
   by_cases e2 : j ≤ i
   ·
    rw [decide_eq_true e2, decide_eq_true (show j + 1 ≤ i by omega)]; simp
   ·
    rw [decide_eq_false e2, decide_eq_false (show ¬ j + 1 ≤ i by omega)]; simp
 ·
  have : x.testBit i = false := Nat.testBit_lt_two_pow (Nat.lt_of_lt_of_le hx (show 18446744073709551616 ≤ 2 ^ i by rw [show 18446744073709551616 = 2 ^ 64 from rfl]; exact Nat.pow_le_pow_right (by omega) (by omega)))
  rw [this]; simp
theorem yj3 {x n : Nat} : clrU x n = 0 ↔ ∀ i, n ≤ i → x.testBit i = false := by
 constructor
 ·
  intro e i hi
  have := ztm x n i
  rw [e, Nat.zero_testBit, decide_eq_true hi, Bool.true_and] at this
  exact this.symm
 ·
  intro h
  refine Nat.eq_of_testBit_eq fun i => ?_
  rw [ztm, Nat.zero_testBit]
  by_cases hi : n ≤ i
  ·
   rw [h i hi, Bool.and_false]
  ·
   rw [decide_eq_false hi, Bool.false_and]
theorem ygi (n : Int) (w : World) : Calls Tryz.prog 71 #[.int .i64 n] w fun e w' => e = .returned (.bool (zjb n)) ∧ Below w.heap.size w w' := by
 by_cases h0 : 0 < n
 ·
  have t0 : decide (0 < n) = true := decide_eq_true h0
  by_cases h1 : n ≤ 8
  ·
   have t1 : decide (n ≤ 8) = true := decide_eq_true h1
   rw [show zjb n = true from decide_eq_true ⟨by omega, h1⟩]
   clear h0 h1
   go_enter Tryz.func71, Tryz.ntmps71
   go_wp2_with fail
   go_ret
   exact ⟨rfl, Below.refl _ _⟩
  ·
   have t1 : decide (n ≤ 8) = false := decide_eq_false h1
   rw [show zjb n = false from decide_eq_false (fun h => h1 h.2)]
   clear h0 h1
   go_enter Tryz.func71, Tryz.ntmps71
   go_wp2_with fail
   go_ret
   exact ⟨rfl, Below.refl _ _⟩
 ·
  have t0 : decide (0 < n) = false := decide_eq_false h0
  rw [show zjb n = false from decide_eq_false (fun h => h0 (by omega))]
  clear h0
  go_enter Tryz.func71, Tryz.ntmps71
  go_wp2_with fail
  go_ret
  exact ⟨rfl, Below.refl _ _⟩
theorem yif (s : SlV) (out : UInt64) {j : Nat} (hj : j < 64) (w : World) : Calls Tryz.prog 145 #[.agg (vo ⟨s, out⟩), .int .i64 (j : Int)] w fun e w' => e = .returned (.bool (hasB out j)) ∧ Below w.heap.size w w' := by
 obtain ⟨W0, hW0⟩ : ∃ W0, W0 = w.alloc (.cells (vo ⟨s, out⟩) 32) := ⟨_, rfl⟩
 have HB : Hid (Below w.heap.size w W0) := by rw [hW0]; exact below1
 have hM0 : W0.heap[w.heap.size]? = some (.cells (vo ⟨s, out⟩) 32 (0, 0)) := by rw [hW0]; exact heap_alloc_last w _
 have HW := Lib.hid hW0
 have zo := (zbn hM0).2.1
 dsimp only at zo
 have HS := Lib.hid (zna (j : Int))
 obtain ⟨B, hB⟩ : ∃ B, B = (bitN (j : Int) : Int) := ⟨_, rfl⟩
 obtain ⟨M, hM⟩ : ∃ M, M = (out.toNat : Int) := ⟨_, rfl⟩
 obtain ⟨x, hx⟩ : ∃ x, x = ((out.toNat &&& 2 ^ j : Nat) : Int) := ⟨_, rfl⟩
 obtain ⟨r, hr⟩ : ∃ r, r = hasB out j := ⟨_, rfl⟩
 have a1 : bits .and .u64 M B = x := by rw [hM, hB, hx]; exact yb5 out hj
 have a2 : (x != 0) = r := by rw [hx, hr]; exact ygs out j
 rw [← hB] at HS
 rw [← hM] at zo
 rw [← hr]
 clear hW0 hM0 hB hM hx hr
 go_enter Tryz.func145, Tryz.ntmps145
 go_upto_region 1 with fail
 rw [← HW.out]
 have La := fun q : Wd W0.drew => za3 zo q
 refine za4 [3] (by kernel_rfl) (by kernel_rfl) (by kernel_rfl) ?_
 repeat (refine zae rfl rfl _ zag ?_; (first | go_big_quiet_step (fail) | quiet_step (fail)); refine wpQuiet_nil ?_)
 refine zau rfl rfl rfl zeu #[.int .i64 (j : Int)] rfl ?_
 refine (HS.out _).mono ?_
 rintro e u ⟨rfl, g⟩
 refine ⟨_, rfl, g, ?_⟩
 simp only [Act.put, List.setIfInBounds_toArray, List.set_cons_zero, List.set_cons_succ]
 have G := Lib.hid (zad HB.out (zad (zap (Below.refl _ _) 1) g))
 clear g La
 repeat (refine zae rfl rfl _ zag ?_; (first | go_big_quiet_step (fail) | quiet_step (fail)); refine wpQuiet_nil ?_)
 refine zbx ?_
 go_wp2_with fail
 go_ret
 exact ⟨rfl, G.out⟩
def z46 (x : Lt) (r : Rt) (ep : UInt64) : Nat :=
 if x.has = true ∧ (ep.toNat < x.epoch.toNat ∨ x.epoch = ep ∧ x.root = r) then 0
 else if x.has = true ∧ x.epoch = ep then 2 else 1
theorem ylj {v : Vt} {i : Nat} {r : Rt} {ep : UInt64} (h : hasB v.out i = false) : zmg v i r ep = z46 (lat v.l i) r ep := by
 unfold zmg z46
 rw [h, if_neg Bool.false_ne_true]
theorem yml (x : Lt) (r : Rt) (ep : UInt64) (w : World) : Calls Tryz.prog 146 #[.agg (lt x), .agg (rc r), .int .u64 (ep.toNat : Int)] w fun e w' => e = .returned (.int .i64 (z46 x r ep : Int)) ∧ Below w.heap.size w w' := by
 obtain ⟨W0, hW0⟩ : ∃ W0, W0 = (w.alloc (.cells (lt x) 108)).alloc (.cells (rc r) 23) := ⟨_, rfl⟩
 obtain ⟨g, m, n, _⟩ := zd0 w _ _ _ _ W0 hW0
 obtain ⟨c0, c1, c2, _, _⟩ := zgc m
 have zu := zaf n (zar _)
 have HB := Lib.hid g
 have HW := Lib.hid hW0
 obtain ⟨hs, hhs⟩ : ∃ hs, hs = x.has := ⟨_, rfl⟩
 obtain ⟨E, hE⟩ : ∃ E, E = x.epoch.toNat := ⟨_, rfl⟩
 obtain ⟨P, hP⟩ : ∃ P, P = ep.toNat := ⟨_, rfl⟩
 obtain ⟨ρ, hρ⟩ : ∃ ρ, ρ = x.root := ⟨_, rfl⟩
 rw [← hhs] at c0
 rw [← hE] at c2
 rw [← hρ] at c1
 obtain ⟨k, hk⟩ : ∃ k, k = z46 x r ep := ⟨_, rfl⟩
 have HK : Hid (k = if hs = true ∧ (P < E ∨ E = P ∧ ρ = r) then 0 else if hs = true ∧ E = P then 2 else 1) := by
  show _ = _
  rw [hk]
  unfold z46
  rw [hhs, hE, hP, hρ]
  simp only [UInt64.toNat_inj]
 rw [← hk, ← hP]
 clear hW0 g m n hhs hE hP hρ hk
 cases hs
 ·
  obtain rfl : k = 1 := HK.out.trans ((if_neg (fun h => by cases h.1)).trans (if_neg (fun h => by cases h.1)))
  go_enter Tryz.func146, Tryz.ntmps146
  go_upto_region 1 with fail
  rw [← HW.out]
  go_wp2_with fail
  go_ret
  exact ⟨rfl, HB.out⟩
 ·
  by_cases h1 : E < P
  ·
   have t1 : decide (E < P) = true := decide_eq_true h1
   have t1' : decide ((E : Int) < (P : Int)) = true := decide_eq_true (by omega)
   obtain rfl : k = 1 := HK.out.trans ((if_neg (fun h => h.2.elim (fun q => by omega) (fun q => by omega))).trans (if_neg (fun h => by omega)))
   clear h1
   go_enter Tryz.func146, Tryz.ntmps146
   go_upto_region 1 with fail
   rw [← HW.out]
   go_wp2_with fail
   go_ret
   exact ⟨rfl, HB.out⟩
  ·
   have t1 : decide (E < P) = false := decide_eq_false h1
   have t1' : decide ((E : Int) < (P : Int)) = false := decide_eq_false (by omega)
   by_cases h2 : E = P
   ·
    subst h2
    by_cases h3 : ρ = r
    ·
     subst h3
     have t3 := z68 ρ
     obtain rfl : k = 0 := HK.out.trans (if_pos ⟨rfl, .inr ⟨rfl, rfl⟩⟩)
     clear h1
     go_enter Tryz.func146, Tryz.ntmps146
     go_upto_region 1 with fail
     rw [← HW.out]
     go_wp2_with fail
     go_ret
     exact ⟨rfl, HB.out⟩
    ·
     have t3 : eqB ρ r = false := decide_eq_false h3
     obtain rfl : k = 2 := HK.out.trans ((if_neg (fun h => h.2.elim (fun q => by omega) (fun q => h3 q.2))).trans (if_pos ⟨rfl, rfl⟩))
     clear h1 h3
     go_enter Tryz.func146, Tryz.ntmps146
     go_upto_region 1 with fail
     rw [← HW.out]
     go_wp2_with fail
     go_ret
     exact ⟨rfl, HB.out⟩
   ·
    have t2 : ((E : Int) == (P : Int)) = false := by rw [beq_eq_false_iff_ne]; omega
    have t2' : (E == P) = false := by rw [beq_eq_false_iff_ne]; exact h2
    have t4 : decide (E = P) = false := decide_eq_false h2
    obtain rfl : k = 0 := HK.out.trans (if_pos ⟨rfl, .inl (by omega)⟩)
    clear h1 h2
    go_enter Tryz.func146, Tryz.ntmps146
    go_upto_region 1 with fail
    rw [← HW.out]
    go_wp2_with fail
    go_ret
    exact ⟨rfl, HB.out⟩
theorem zth : ∀ args w, (callFunc 146 args).run Tryz.prog w = .ok (.enter 146 args) w := zbb Tryz.func146 (by kernel_rfl) (by kernel_rfl)
theorem yjm : ∀ n, n ≤ 8 → (madeCells (Value.agg (lt zlt)).cells (n * 34)).toList = zan Elt (List.replicate n zlt) := by
 intro n hn
 have : n = 0 ∨ n = 1 ∨ n = 2 ∨ n = 3 ∨ n = 4 ∨ n = 5 ∨ n = 6 ∨ n = 7 ∨ n = 8 := by omega
 rcases this with rfl | rfl | rfl | rfl | rfl | rfl | rfl | rfl | rfl <;> (refine Eq.symm ?_; kernel_rfl)
theorem ye9 (n : Int) (w : World) :
  Calls Tryz.prog 33 #[.int .i64 n] w (VoOk (newV n) (zjb n) w) := by
 obtain ⟨W0, hW0⟩ : ∃ W0, W0 = w.alloc (.cells (vo zvo) 32) := ⟨_, rfl⟩
 have HB : Hid (Below w.heap.size w W0) := by rw [hW0]; exact below1
 have M0 : Hid (W0.heap[w.heap.size]? = some (.cells (vo zvo) 32 (0, 0))) := by rw [hW0]; exact heap_alloc_last w _
 have HW := Lib.hid hW0
 have HF := Lib.hid (ygi n W0)
 obtain ⟨i, hi, hz0, hz1, hz2⟩ := info_parts yfu
 clear hW0
 by_cases hn : 1 ≤ n ∧ n ≤ 8
 ·
  obtain ⟨n, rfl⟩ : ∃ n' : Nat, n = n' := ⟨n.toNat, by omega⟩
  have e : zjb (n : Int) = true := decide_eq_true hn
  have HV : Hid (newV (n : Int) = ⟨List.replicate n zlt, 0⟩) := by unfold newV; rw [e, if_pos rfl]; exact Lib.hid rfl
  rw [e] at HF ⊢
  have HN : Hid (n ≤ 8) := by show n ≤ 8; omega
  have n0 : (0 : Int) ≤ (n : Int) := by omega
  clear hn e
  go_enter Tryz.func33, Tryz.ntmps33
  go_upto_region 1 with fail
  rw [← HW.out]
  go_wp2_with fail
  refine HF.out.mono ?_
  rintro e w1 ⟨rfl, g⟩
  have B1 := Lib.hid (zad HB.out g)
  have M1 := Lib.hid (zab g M0.out)
  clear g
  go_wp2_with (at_make; refine wpList_make_full _ rfl _ _ 29 rfl w1.heap.size 108 i _ 34 Tryz.underlying29 hi hz0 hz1 .i64 .i64 _ _ n rfl rfl rfl rfl (by rw [hz2]; have := HN.out; omega) (by unfold maxLen; have := HN.out; omega) (Nat.le_refl _) ?_; intro wz hown hgrow; have BZ : Hid (Below w1.heap.size w1 wz) := (Below.refl _ _).grown hgrow (Nat.le_refl _) (fun k hk => by cases hk); have OZ := Lib.hid hown; have MZ := Lib.hid (zab BZ.out M1.out); have y1 := za8 MZ.out (zaz _); clear hown hgrow)
  have hS : SlE Elt wz (.slice (some ⟨w1.heap.size, 0, none⟩) n n) (List.replicate n zlt) := by
   have h := OZ.out
   rw [yjm n HN.out] at h
   have : OwnE Elt wz w1.heap.size (.slice (some ⟨w1.heap.size, 0, none⟩) n n) (List.replicate n zlt) := by
    unfold OwnE
    rw [List.length_replicate]
    exact h
   exact zak this
  have hF := zby MZ.out (r := vo ⟨⟨some ⟨w1.heap.size, 0, none⟩, n, n⟩, 0⟩) (by rw [zaz, zaz])
  have hne : w.heap.size ≠ w1.heap.size := by have := (Array.getElem?_eq_some_iff.1 M1.out).1; omega
  refine bodyPost_ret (v := .tuple #[.agg (vo ⟨⟨some ⟨w1.heap.size, 0, none⟩, n, n⟩, 0⟩), .bool true]) (zal Tryz.isAgg32 Tryz.sizeOf32 _ 2 3 rfl _ _ _ _ _ rfl rfl (zaf hF (zaz _))) rfl ⟨⟨some ⟨w1.heap.size, 0, none⟩, n, n⟩, by rw [HV.out], by rw [HV.out]; exact ze5 hS (by rw [zmr]; exact Nat.le_refl _) (fun b _ hb => zc0 (by have hb' : w1.heap.size = b := Option.some.inj hb; omega)), zav (zad B1.out BZ.out) (Nat.le_refl _)⟩
 ·
  have e : zjb n = false := decide_eq_false hn
  have HV : Hid (newV n = ⟨[], 0⟩) := by unfold newV; rw [e, if_neg Bool.false_ne_true]; exact Lib.hid rfl
  rw [e] at HF ⊢
  clear hn e hi hz0 hz1 hz2
  go_enter Tryz.func33, Tryz.ntmps33
  go_upto_region 1 with fail
  rw [← HW.out]
  go_wp2_with fail
  refine HF.out.mono ?_
  rintro e w1 ⟨rfl, g⟩
  have B1 := Lib.hid (zad HB.out g)
  have M1 := Lib.hid (zab g M0.out)
  have y1 := za8 M1.out (zaz _)
  clear g
  go_wp2_with fail
  exact bodyPost_ret (v := .tuple #[.agg (vo zvo), .bool false]) (zal Tryz.isAgg32 Tryz.sizeOf32 _ 2 3 rfl _ _ _ _ _ rfl rfl (zaf (zby M1.out rfl) (zaz _))) rfl ⟨⟨none, 0, 0⟩, by rw [HV.out]; rfl, by rw [HV.out]; exact zbt _ _ _ _, zav B1.out (Nat.le_refl _)⟩
theorem z0n (p : Option Addr) (n cap : Nat) (w : World) : (binOp .eql 24 (.slice p n cap) (.slice none 0 0)).run Tryz.prog w = .ok (.bool p.isNone) w := by
 have h := run_equalIn_slice_nil (P := Tryz.prog) w 9999 24 30 p n cap Tryz.underlying24
 simp [binOp, Op.equal, Op.maxDepth, h]
theorem yx0 : zll Tryz.prog Enum 24 8 := ⟨Tryz.underlying24, num 0, zyb, rfl⟩
def yu9 (l : List UInt64) (w : World) (e : Ending) (w' : World) : Prop := ∃ v, e = .returned v ∧ OwnE Enum w' w.heap.size v l ∧ Below w.heap.size w w'
theorem yay (p : Option Addr) (n cap : Nat) (l : List UInt64) (w : World) (h : SlE Enum w (.slice p n cap) l) (hl : l.length = n) (hn : n * 8 ≤ 140737488355328) :
  Calls Tryz.prog 34 #[.slice p n cap] w (yu9 l w) := by
 have HS := Lib.hid h
 have HL := Lib.hid hl
 have HN := Lib.hid hn
 cases p with
 | none =>
  have hn0 : l = [] := by
   obtain ⟨p, cap', e, _, h⟩ := h
   injection e with e
   subst e
   exact h.resolve_right (fun ⟨_, _, e, _⟩ => by cases e)
  have e : n = 0 := by rw [← hl, hn0]; rfl
  subst hn0 e
  clear HS h hl hn
  have he : ∀ w, (binOp .eql 24 (.slice none 0 cap) (.slice none 0 0)).run Tryz.prog w = .ok (.bool true) w := fun w => z0n none 0 cap w
  go_enter Tryz.func34, Tryz.ntmps34
  go_wp2_with fail
  go_ret
  exact ⟨_, rfl, zbv _ _ _, Below.refl _ _⟩
 | some a =>
  have HO : Hid (OwnE Enum (w.alloc (.cells #[] 30)) w.heap.size (.slice (some ⟨w.heap.size, 0, none⟩) 0 0) []) := zk1 (E := Enum) w [] 0 rfl (by simp [maxLen]) #[] rfl _ rfl
  have HB : Hid (Below w.heap.size w (w.alloc (.cells #[] 30))) := below1
  clear h hl hn
  have he : ∀ w, (binOp .eql 24 (.slice (some a) n cap) (.slice none 0 0)).run Tryz.prog w = .ok (.bool false) w := fun w => z0n (some a) n cap w
  go_enter Tryz.func34, Tryz.ntmps34
  go_wp2_with (at_builtin; refine zc1 yx0 _ rfl (.tmp 5) (.tmp 6) rfl w.heap.size _ [] rfl HO.out _ l rfl (zac HB.out HS.out) (by have := HL.out; have := HN.out; simp [maxLen]; omega) (by have := HL.out; have := HN.out; simp; omega) (by simp) ?_; intro v2 w2 ho2 hg2)
  go_ret
  exact ⟨_, rfl, by simpa using ho2, HB.out.trans (hg2.own HO.out (by simp))⟩
theorem zgb (v : Value) (l : List UInt64) (w : World) (h : SlE Enum w v l) (hn : l.length * 8 ≤ 140737488355328) :
  Calls Tryz.prog 34 #[v] w (yu9 l w) := by
 have k := h
 obtain ⟨p, cl, rfl, _⟩ := zaj h
 exact yay p _ cl l w k rfl hn
theorem zsp : ∀ args w, (callFunc 34 args).run Tryz.prog w = .ok (.enter 34 args) w := zbb Tryz.func34 (by kernel_rfl) (by kernel_rfl)
end Go.Proofs.YtmihlihlpdkdcaaGreat
