import Derived.Test.YtmihlihlpdkdcaaGreatQ06
import Derived.Test.YtmihlihlpdkdcaaGreatK11
import Derived.Lib.Mul64
import Derived.Laws.Bits64b
import Derived.Outline
import Derived.WalkSpells
import Derived.Laws.StructEq
import Derived.KernelRfl
import Derived.Test.YtmihlihlpdkdcaaGreatK21
import Derived.Test.YtmihlihlpdkdcaaGreatQ08
import Derived.Test.YtmihlihlpdkdcaaGreatK19
import Derived.Test.YtmihlihlpdkdcaaGreatK20
import Derived.Test.YtmihlihlpdkdcaaGreatK16
import Derived.Test.YtmihlihlpdkdcaaGreatQ09
import Derived.Test.YtmihlihlpdkdcaaGreatK15
import Derived.Test.YtmihlihlpdkdcaaGreatQ01
import Derived.Maps.OwnSet
import Derived.Maps.OwnOps
import Derived.RangeFuncOwn
import Derived.Test.YtmihlihlpdkdcaaGreatK12
import Derived.Deep.Cut
import Derived.Deep.CutRange
import Derived.Deep.RegionLaw
namespace Go.Proofs.YtmihlihlpdkdcaaGreat
open Go.RowKit
set_option maxRecDepth 200000
set_option maxHeartbeats 64000000
def Word (x : Int) : Prop := 0 ≤ x ∧ x < 18446744073709551616
def yja (a b : Int) : Bool := decide (2 * b ≤ 3 * a)
theorem ysp (a : Nat) (ha : a < 18446744073709551616) : bits .and .u64 (a : Int) 4294967295 = ((a % 4294967296 : Nat) : Int) := by
 have h := bits_and_u64_nat a 4294967295 ha (by omega)
 have e : a &&& 4294967295 = a % 4294967296 := Nat.and_two_pow_sub_one_eq_mod a 32
 rw [e] at h
 exact h
theorem divN (a : Nat) : (a : Int) / 4294967296 = ((a / 4294967296 : Nat) : Int) := by omega
theorem mulZ (a b : Nat) : (a : Int) * (b : Int) = ((a * b : Nat) : Int) := (Int.natCast_mul a b).symm
theorem addZ (a b : Nat) : (a : Int) + (b : Int) = ((a + b : Nat) : Int) := (Int.natCast_add a b).symm
theorem z0i (a : Nat) (ha : a < 18446744073709551616) : IntKind.u64.wrap (a : Int) = (a : Int) := by rw [IntKind.wrap_u64]; omega
theorem yxs (a : Nat) : IntKind.u64.wrap (a : Int) = ((a % 18446744073709551616 : Nat) : Int) := by rw [IntKind.wrap_u64]; omega
theorem ydy (x y : Nat) (hx : x < 18446744073709551616) (hy : y < 18446744073709551616) (w : World) :
  Calls Tryz.prog 166 #[.int .u64 x, .int .u64 y] w fun e w' => e = .returned (.tuple #[.int .u64 ((x * y / 18446744073709551616 : Nat) : Int), .int .u64 ((x * y % 18446744073709551616 : Nat) : Int)]) ∧ w = w' := by
 obtain ⟨bd, bt, bw, hhi⟩ := Lib.mul64_hi x y hx hy
 have ba := Lib.half_mul_le (a := x / 4294967296) (b := y / 4294967296) (by omega) (by omega)
 have bb := Lib.half_mul_le (a := x / 4294967296) (b := y % 4294967296) (by omega) (by omega)
 have bc := Lib.half_mul_le (a := x % 4294967296) (b := y / 4294967296) (by omega) (by omega)
 have ba' : x / 4294967296 * (y / 4294967296) < 18446744073709551616 := by omega
 have bb' : x / 4294967296 * (y % 4294967296) < 18446744073709551616 := by omega
 have bc' : x % 4294967296 * (y / 4294967296) < 18446744073709551616 := by omega
 have bh1 : x / 4294967296 * (y / 4294967296) + (x / 4294967296 * (y % 4294967296) + x % 4294967296 * (y % 4294967296) / 4294967296) / 4294967296 < 18446744073709551616 := by omega
 have bh : x / 4294967296 * (y / 4294967296) + (x / 4294967296 * (y % 4294967296) + x % 4294967296 * (y % 4294967296) / 4294967296) / 4294967296 + ((x / 4294967296 * (y % 4294967296) + x % 4294967296 * (y % 4294967296) / 4294967296) % 4294967296 + x % 4294967296 * (y / 4294967296)) / 4294967296 < 18446744073709551616 := by omega
 go_enter Tryz.func166, Tryz.ntmps166
 go_wp2
 simp only [ysp x hx, ysp y hy, divN, mulZ, addZ, z0i _ bd, z0i _ bb', z0i _ bt, ysp _ bt, z0i _ bc', z0i _ bw, z0i _ ba', z0i _ bh1, z0i _ bh, yxs (x * y)]
 rw [hhi]
 go_ret2
 exact ⟨rfl, rfl⟩
theorem yx4 (x y : Int) (hx : Word x) (hy : Word y) (w : World) :
  Calls Tryz.prog 166 #[.int .u64 x, .int .u64 y] w fun e w' => e = .returned (.tuple #[.int .u64 (x * y / 18446744073709551616), .int .u64 (x * y % 18446744073709551616)]) ∧ w = w' := by
 obtain ⟨hx0, hx1⟩ := hx
 obtain ⟨hy0, hy1⟩ := hy
 obtain ⟨X, rfl⟩ := Int.eq_ofNat_of_zero_le hx0
 obtain ⟨Y, rfl⟩ := Int.eq_ofNat_of_zero_le hy0
 have h := ydy X Y (by omega) (by omega) w
 rw [Int.natCast_ediv, Int.natCast_emod, Int.natCast_mul] at h
 exact h
theorem zte {a w : World} (h : Below a.heap.size a w) (o : Obj) : Below a.heap.size a (w.alloc o) := h.alloc h.size _
theorem zrd (a b : Int) (ha : Word a) (hb : Word b) (w : World) :
  Calls Tryz.prog 164 #[.int .u64 a, .int .u64 b] w fun e w' => e = .returned (.agg #[.int .u64 (a * b / 18446744073709551616), .int .u64 (a * b % 18446744073709551616)]) ∧ Below w.heap.size w w' := by
 go_enter Tryz.func164, Tryz.ntmps164
 go_wp2_with (go_at_call 166; refine (yx4 _ _ ha hb _).mono ?_; rintro e w' ⟨rfl, rfl⟩)
 exact bodyPost_ret (v := .agg #[.int .u64 (a * b / 18446744073709551616), .int .u64 (a * b % 18446744073709551616)]) (by simp [results, Tryz.results164, go_sem]) rfl ⟨rfl, below1⟩
theorem z4c (ah al : Int) (w : World) :
  Calls Tryz.prog 163 #[.agg #[.int .u64 ah, .int .u64 al], .agg #[.int .u64 ah, .int .u64 al]] w fun e w' => e = .returned (.bool true) ∧ Below w.heap.size w w' := by
 go_enter Tryz.func163, Tryz.ntmps163
 go_wp2
 go_ret
 exact ⟨rfl, zte below1 _⟩
theorem z4s (ah al bh bl : Int) (h : bh < ah) (w : World) :
  Calls Tryz.prog 163 #[.agg #[.int .u64 ah, .int .u64 al], .agg #[.int .u64 bh, .int .u64 bl]] w fun e w' => e = .returned (.bool true) ∧ Below w.heap.size w w' := by
 have h1 : (ah == bh) = false := beq_eq_false_iff_ne.2 (by omega)
 go_enter Tryz.func163, Tryz.ntmps163
 go_wp2
 go_ret
 exact ⟨rfl, zte below1 _⟩
theorem yb2 (ah al bh bl : Int) (h : ah < bh) (w : World) :
  Calls Tryz.prog 163 #[.agg #[.int .u64 ah, .int .u64 al], .agg #[.int .u64 bh, .int .u64 bl]] w fun e w' => e = .returned (.bool false) ∧ Below w.heap.size w w' := by
 have h1 : (ah == bh) = false := beq_eq_false_iff_ne.2 (by omega)
 have h2 : ¬ bh < ah := by omega
 go_enter Tryz.func163, Tryz.ntmps163
 go_wp2
 go_ret
 exact ⟨rfl, zte below1 _⟩
theorem z4p (ah al bl : Int) (h : bl < al) (w : World) :
  Calls Tryz.prog 163 #[.agg #[.int .u64 ah, .int .u64 al], .agg #[.int .u64 ah, .int .u64 bl]] w fun e w' => e = .returned (.bool true) ∧ Below w.heap.size w w' := by
 have h1 : (al == bl) = false := beq_eq_false_iff_ne.2 (by omega)
 go_enter Tryz.func163, Tryz.ntmps163
 go_wp2
 go_ret
 exact ⟨rfl, zte below1 _⟩
theorem z5m (ah al bl : Int) (h : al < bl) (w : World) :
  Calls Tryz.prog 163 #[.agg #[.int .u64 ah, .int .u64 al], .agg #[.int .u64 ah, .int .u64 bl]] w fun e w' => e = .returned (.bool false) ∧ Below w.heap.size w w' := by
 have h1 : (al == bl) = false := beq_eq_false_iff_ne.2 (by omega)
 have h2 : ¬ bl < al := by omega
 go_enter Tryz.func163, Tryz.ntmps163
 go_wp2
 go_ret
 exact ⟨rfl, zte below1 _⟩
def zyx (ah al bh bl : Int) : Bool := decide (bh < ah ∨ bh = ah ∧ bl ≤ al)
theorem z9s (ah al bh bl : Int) (w : World) :
  Calls Tryz.prog 163 #[.agg #[.int .u64 ah, .int .u64 al], .agg #[.int .u64 bh, .int .u64 bl]] w fun e w' => e = .returned (.bool (zyx ah al bh bl)) ∧ Below w.heap.size w w' := by
 unfold zyx
 by_cases h1 : bh < ah
 ·
  rw [decide_eq_true (p := bh < ah ∨ bh = ah ∧ bl ≤ al) (by omega)]
  exact z4s _ _ _ _ h1 w
 by_cases h2 : ah < bh
 ·
  rw [decide_eq_false (p := bh < ah ∨ bh = ah ∧ bl ≤ al) (by omega)]
  exact yb2 _ _ _ _ h2 w
 obtain rfl : ah = bh := by omega
 by_cases h3 : bl < al
 ·
  rw [decide_eq_true (p := ah < ah ∨ ah = ah ∧ bl ≤ al) (by omega)]
  exact z4p _ _ _ h3 w
 by_cases h4 : al < bl
 ·
  rw [decide_eq_false (p := ah < ah ∨ ah = ah ∧ bl ≤ al) (by omega)]
  exact z5m _ _ _ h4 w
 obtain rfl : al = bl := by omega
 rw [decide_eq_true (p := ah < ah ∨ ah = ah ∧ al ≤ al) (by omega)]
 exact z4c _ _ w
theorem zq8 (n : Nat) (h : n < 18446744073709551616) : Word (n : Int) := ⟨by omega, by omega⟩
theorem zz2 (x y : Int) : zyx (x / 18446744073709551616) (x % 18446744073709551616) (y / 18446744073709551616) (y % 18446744073709551616) = decide (y ≤ x) := by
 unfold zyx
 by_cases h : y ≤ x
 ·
  rw [decide_eq_true h]; exact decide_eq_true (by omega)
 ·
  rw [decide_eq_false h]; exact decide_eq_false (by omega)
theorem ykg (a b : Int) (ha : Word a) (hb : Word b) (w : World) :
  Calls Tryz.prog 157 #[.int .u64 a, .int .u64 b] w fun e w' => e = .returned (.bool (yja a b)) ∧ Below w.heap.size w w' := by
 have c3 := fun w => zrd 3 a (zq8 3 (by decide)) ha w
 have c2 := fun w => zrd 2 b (zq8 2 (by decide)) hb w
 have hn := zz2 (3 * a) (2 * b)
 rw [show yja a b = decide (2 * b ≤ 3 * a) from rfl, ← hn]
 clear hn ha hb
 generalize 3 * a / 18446744073709551616 = p at *
 generalize 3 * a % 18446744073709551616 = q at *
 generalize 2 * b / 18446744073709551616 = r at *
 generalize 2 * b % 18446744073709551616 = s at *
 go_enter Tryz.func157, Tryz.ntmps157
 go_wp2_with fail
 refine (c3 _).mono ?_
 rintro e w1 ⟨rfl, h1⟩
 go_wp2_with fail
 refine (c2 _).mono ?_
 rintro e w2 ⟨rfl, h2⟩
 go_wp2_with fail
 refine (z9s _ _ _ _ _).mono ?_
 rintro e w3 ⟨rfl, h3⟩
 go_wp2_with fail
 go_ret
 exact ⟨rfl, zad (zad h1 h2) h3⟩
theorem yr6 (a b : Nat) (ha : a < 18446744073709551616) (hb : b < 18446744073709551616) (w : World) :
  Calls Tryz.prog 157 #[.int .u64 (a : Int), .int .u64 (b : Int)] w fun e w' => e = .returned (.bool (z8t a b)) ∧ Below w.heap.size w w' := by
 have := ykg a b (zq8 a ha) (zq8 b hb) w
 rwa [show yja a b = z8t a b by unfold yja z8t; rw [Bool.eq_iff_iff, decide_eq_true_iff, decide_eq_true_iff]; omega] at this
theorem yeq : yql := fun v l mask w h => by
 have HM := Lib.hid (zq0 v l w h)
 have HO := Lib.hid (fun W (g : Below w.heap.size w W) => ye7 v l mask W (zac g h))
 have HT := Lib.hid (fun W (g : Below w.heap.size w W) => z8o v l W (zac g h))
 have HX := Lib.hid (fun W => yr6 (ofS l mask) (totS l) (by have : ofS l mask ≤ 8796093022208 := ynu; omega) (by have : totS l ≤ 8796093022208 := ynu; omega) W)
 obtain ⟨m, hm⟩ : ∃ m, m = (mask.toNat : Int) := ⟨_, rfl⟩
 rw [← hm] at HO
 rw [← hm]
 have he : yms l mask = (mayB l && z8t (ofS l mask) (totS l)) := rfl
 rw [he]
 generalize z8t (ofS l mask) (totS l) = r at *
 generalize ofS l mask = o at *
 generalize totS l = t at *
 generalize mayB l = b at *
 clear h hm he
 go_enter Tryz.func151, Tryz.ntmps151
 go_wp2_with fail
 refine HM.out.mono ?_
 rintro e w1 ⟨rfl, g1⟩
 have G1 := Lib.hid g1
 clear g1
 cases b
 ·
  go_wp2_with fail
  go_ret
  exact ⟨by cases r <;> rfl, G1.out⟩
 go_wp2_with fail
 refine (HO.out _ G1.out).mono ?_
 rintro e w2 ⟨rfl, g⟩
 have G2 := Lib.hid (zad G1.out g)
 clear g
 go_wp2_with fail
 refine (HT.out _ G2.out).mono ?_
 rintro e w3 ⟨rfl, g⟩
 have G3 := Lib.hid (zad G2.out g)
 clear g
 go_wp2_with fail
 refine (HX.out _).mono ?_
 rintro e w4 ⟨rfl, g⟩
 have G4 := Lib.hid (zad G3.out g)
 clear g
 cases r <;> (
  go_wp2_with fail
  go_ret
  exact ⟨rfl, G4.out⟩)
def cntL (l : List Nd) (ls : List Lk) (bal : List UInt64) : List Lk := if zgk l ls bal = true then ls.filter (cntB l bal) else []
def zhn (k : List Ck) (y : Lk) : Bool := decide (y.s ∈ k) && !decide (y.t ∈ k)
section
variable {l : List Nd} {ls : List Lk} {bal : List UInt64} {k js : List Ck}
theorem z6m (l : List Nd) (ls : List Lk) (bal : List UInt64) : (cntL l ls bal).length ≤ ls.length := by
 unfold cntL
 split
 ·
  exact List.length_filter_le _ _
 ·
  exact Nat.zero_le _
theorem zwy (h : zgk l ls bal = true) : cntL l ls bal = ls.filter (cntB l bal) := by unfold cntL; rw [if_pos h]
theorem ygb (h : zgk l ls bal = false) : cntL l ls bal = [] := by unfold cntL; rw [if_neg (by rw [h]; exact Bool.false_ne_true)]
theorem zv5 {α : Type} {p : α → Bool} {x : α} {L : List α} : ∀ (ys : List α), ys ++ [x] <+: L → (∀ y ∈ ys, p y = false) → p x = true → L.find? p = some x
 | [], h, _, hx => by
  obtain ⟨t, rfl⟩ := h
  show List.find? p (x :: t) = _
  rw [List.find?_cons, hx]
 | y :: ys, h, ha, hx => by
  obtain ⟨t, rfl⟩ := h
  show List.find? p (y :: (ys ++ [x] ++ t)) = _
  rw [List.find?_cons, ha y List.mem_cons_self]
  exact zv5 ys ⟨t, rfl⟩ (fun z hz => ha z (List.mem_cons_of_mem _ hz)) hx
theorem zlx {α : Type} (p q : α → Bool) : ∀ L : List α, (L.filter p).find? q = L.find? fun a => p a && q a
 | [] => rfl
 | a :: L => by
  rw [List.filter_cons, List.find?_cons]
  cases h : p a
  ·
   rw [if_neg Bool.false_ne_true, Bool.false_and]
   exact zlx p q L
  ·
   rw [if_pos rfl, List.find?_cons, Bool.true_and, zlx p q L]
theorem zr0 (cnt : Lk → Bool) (ls : List Lk) (k : List Ck) : zcv cnt ls k = (ls.filter cnt).find? (zhn k) := by
 rw [zlx]; rfl
theorem yi0 {x : Lk} {ys : List Lk} (h : ys ++ [x] <+: cntL l ls bal) (h1 : ∀ y ∈ ys, zhn k y = false) (h2 : zhn k x = true) : zda l ls bal (k ++ [x.t]) = zda l ls bal k ∧ zqf ls (k ++ [x.t]) < zqf ls k := by
 cases ht : zgk l ls bal
 ·
  rw [ygb ht] at h
  obtain ⟨t, e⟩ := h
  simp at e
 ·
  have hf := zv5 ys h h1 h2
  rw [zwy ht, ← zr0] at hf
  rw [zno ht, zno ht]
  exact ⟨(yco hf).symm, zgw hf⟩
theorem ynb (h : ∀ y ∈ cntL l ls bal, zhn k y = false) : zda l ls bal k = k := by
 cases ht : zgk l ls bal
 ·
  exact ym7 ht
 ·
  rw [zno ht]
  rw [zwy ht] at h
  refine zeq ?_ _
  rw [zr0]
  exact List.find?_eq_none.2 fun y hy => by rw [h y hy]; exact Bool.false_ne_true
def yq5 (js : List Ck) (y : Lk) : Bool := decide (y.t ∈ js) && decide ((y.t.epoch.toNat : Int) = ((y.s.epoch + 1).toNat : Int))
def srcs (js : List Ck) (L : List Lk) : List Ck := (L.filter (yq5 js)).map Lk.s
theorem yh4 (js : List Ck) (L : List Lk) (x : Lk) : srcs js (L ++ [x]) = srcs js L ++ (if yq5 js x = true then [x.s] else []) := by
 unfold srcs
 rw [List.filter_append, List.map_append]
 congr 1
 rw [List.filter_cons]
 split <;> rfl
theorem ztz : zc4 l ls bal js = js.filter fun c => decide (c ∈ srcs js (cntL l ls bal)) := by
 cases ht : zgk l ls bal
 ·
  rw [z8l ht, ygb ht]
  refine (List.filter_eq_nil_iff.2 fun c _ => ?_).symm
  simp [srcs]
 ·
  rw [zrv ht, zwy ht]
  unfold zt3
  refine List.filter_congr fun c _ => ?_
  rw [Bool.eq_iff_iff, decide_eq_true_iff]
  unfold ydp srcs yq5
  rw [List.any_eq_true, List.mem_map]
  have hl := (znk.1 ht).2.1
  have hup : ∀ y ∈ ls, y.s.epoch.toNat < y.t.epoch.toNat := fun y hy => by
   obtain ⟨i, hi, rfl⟩ := List.getElem_of_mem hy
   have := ((zex.1 hl).1 i hi).1.1
   rwa [zcm hi] at this
  have key : ∀ y ∈ ls, (decide (y.t.epoch.toNat = y.s.epoch.toNat + 1)) = decide ((y.t.epoch.toNat : Int) = ((y.s.epoch + 1).toNat : Int)) := fun y hy => by
   have h1 := hup y hy
   have h2 := y.t.epoch.toNat_lt
   have h3 : (y.s.epoch + 1).toNat = (y.s.epoch.toNat + 1) % 18446744073709551616 := by rw [UInt64.toNat_add]; rfl
   rw [h3, Nat.mod_eq_of_lt (by omega)]
   exact decide_eq_decide.2 (by omega)
  constructor
  ·
   rintro ⟨y, hy, h⟩
   rw [Bool.and_eq_true, Bool.and_eq_true, Bool.and_eq_true] at h
   obtain ⟨h1, h2, h3, h4⟩ := h
   have e := of_decide_eq_true h3
   subst e
   refine ⟨y, List.mem_filter.2 ⟨List.mem_filter.2 ⟨hy, h1⟩, ?_⟩, rfl⟩
   rw [Bool.and_eq_true]
   exact ⟨h2, by rw [← key y hy]; exact h4⟩
  ·
   rintro ⟨y, hy, rfl⟩
   obtain ⟨hy, h2⟩ := List.mem_filter.1 hy
   obtain ⟨hy, h1⟩ := List.mem_filter.1 hy
   rw [Bool.and_eq_true] at h2
   refine ⟨y, hy, ?_⟩
   rw [Bool.and_eq_true, Bool.and_eq_true, Bool.and_eq_true]
   exact ⟨h1, h2.1, decide_eq_true rfl, by rw [key y hy]; exact h2.2⟩
theorem zod {lt : Rt → Rt → Bool} {ok : Ck → Bool} {b : Nat} : ∀ (L : List Ck) (o : Ck), zf6 lt ok (L.filter fun c => !decide (c.epoch.toNat ≤ b)) o = zf6 lt (fun c => ok c && decide (b < c.epoch.toNat)) L o
 | [], o => rfl
 | c :: L, o => by
  rw [List.filter_cons]
  by_cases h : c.epoch.toNat ≤ b
  ·
   rw [if_neg (by rw [decide_eq_true h]; decide), zod L o]
   show _ = zf6 lt _ L (if ((ok c && decide (b < c.epoch.toNat)) && betC lt o c) = true then c else o)
   rw [decide_eq_false (show ¬ b < c.epoch.toNat by omega), Bool.and_false, Bool.false_and, if_neg Bool.false_ne_true]
  ·
   rw [if_pos (by rw [decide_eq_false h]; rfl)]
   show zf6 lt ok _ (if (ok c && betC lt o c) = true then c else o) = zf6 lt _ L (if ((ok c && decide (b < c.epoch.toNat)) && betC lt o c) = true then c else o)
   rw [decide_eq_true (show b < c.epoch.toNat by omega), Bool.and_true]
   exact zod L _
theorem yea {fin : Ck} : zzx l ((zc4 l ls bal js).filter fun c => !decide (c.epoch.toNat ≤ fin.epoch.toNat)) fin = zha l ls bal js fin := zod _ _
end
def yph (l : List Nd) (ls : List Lk) (bal : List UInt64) (w : World) (e : Ending) (w' : World) : Prop :=
 ∃ (b m c : Nat) (p : Option Addr), e = .returned (.func (.func 160) #[] #[.pointer (some ⟨b, 0, none⟩)]) ∧ w'.heap[b]? = some (.cells #[.slice p m c] 34 (0, 0)) ∧ (cntL l ls bal).length = m ∧
  OwnE Elk w' w.heap.size (.slice p m c) (cntL l ls bal) ∧ w.heap.size ≤ b ∧ Below w.heap.size w w'
theorem yal (s : SlV) (p : Option Addr) (n cp : Nat) (vb : Value) (l : List Nd) (ls : List Lk) (bal : List UInt64) (w : World) (h : SlE Ene w (sv s) l) (h1 : SlE Elk w (.slice p n cp) ls) (h2 : SlE Enum w vb bal) (hl : ls.length = n) (hn : n ≤ 1000) :
  Calls Tryz.prog 130 #[.agg (tr ⟨s⟩), .slice p n cp, vb] w (yph l ls bal w) := by
 have HBh := Lib.hid (fun c d W (g : Below w.heap.size w W) => zph s l c d W (zac g h))
 have HMy := Lib.hid (fun W (g : Below w.heap.size w W) => ziy s l W (zac g h))
 have HLm := Lib.hid (fun W (g : Below w.heap.size w W) => z4l (.slice p n cp) ls W (zac g h1))
 have HSm := Lib.hid (fun W (g : Below w.heap.size w W) => zq0 vb bal W (zac g h2))
 have HSt := Lib.hid (fun m W (g : Below w.heap.size w W) => yeq vb bal m W (zac g h2))
 have HL := Lib.hid hl
 have HN := Lib.hid hn
 have K := Lib.hid h1
 have HVf : Hid (∀ (q : Option Addr) (m c : Nat) W, Calls Tryz.prog 152 #[.slice q m c] W fun e w' => e = .returned (.func (.func 160) #[] #[.pointer (some ⟨W.heap.size, 0, none⟩)]) ∧ w' = W.alloc (.cells #[.slice q m c] 34)) := z1m
 obtain ⟨vL, hvL⟩ : ∃ vL, vL = cntL l ls bal := ⟨_, rfl⟩
 have HEnd : Hid (∀ (q : Option Addr) (m c : Nat) (W W' : World), OwnE Elk W w.heap.size (.slice q m c) vL → vL.length = m → Below w.heap.size w W → W' = W.alloc (.cells #[.slice q m c] 34) → yph l ls bal w (.returned (.func (.func 160) #[] #[.pointer (some ⟨W.heap.size, 0, none⟩)])) W') := fun q m c W W' ho hlm hb e => by
  subst e
  refine ⟨W.heap.size, m, c, q, rfl, heap_alloc_last W _, by rw [← hvL]; exact hlm, by rw [← hvL]; exact za6 ho _, hb.size, zad hb below1⟩
 have HvL := Lib.hid hvL
 obtain ⟨ma, hma⟩ : ∃ b, b = decide (MayT l) := ⟨_, rfl⟩
 obtain ⟨mb, hmb⟩ : ∃ b, b = mayL ls := ⟨_, rfl⟩
 obtain ⟨mc, hmc⟩ : ∃ b, b = mayB bal := ⟨_, rfl⟩
 rw [← hma] at HMy
 rw [← hmb] at HLm
 rw [← hmc] at HSm
 have HTo : Hid (zgk l ls bal = (ma && (mb && mc))) := by show _ = _; rw [hma, hmb, hmc]; rfl
 obtain ⟨W0, hW0⟩ : ∃ W0, W0 = w.alloc (.cells (tr ⟨s⟩) 28) := ⟨_, rfl⟩
 have HB : Hid (Below w.heap.size w W0) := by rw [hW0]; exact below1
 have T0 : Hid (W0.heap[w.heap.size]? = some (.cells (tr ⟨s⟩) 28 (0, 0))) := by rw [hW0]; exact heap_alloc_last w _
 have HW := Lib.hid hW0
 have z0 := (za2 T0.out).2.1
 obtain ⟨ib, hib, hz0, hz1, hz2⟩ := info_parts z41
 clear hW0 h h1 h2 hl hn hma hmb hmc hvL ib hib hz0 hz1 hz2
 go_enter Tryz.func130, Tryz.ntmps130
 go_upto_region 1 with fail
 rw [← HW.out]
 go_wp2_with fail
 refine (HMy.out W0 HB.out).mono ?_
 rintro e w1 ⟨rfl, g⟩
 have G1 := Lib.hid (zad HB.out g)
 replace T0 := Lib.hid (zab g T0.out)
 clear g z0 HB HW HMy
 cases ma
 ·
  have HF : Hid (vL = []) := by show vL = []; rw [HvL.out]; unfold cntL; rw [HTo.out]; rfl
  go_wp2_with fail
  refine (HVf.out _ _ _ _).mono ?_
  rintro e w2 ⟨rfl, g⟩
  have HG := Lib.hid g
  clear g
  go_wp2_with fail
  go_ret
  exact HEnd.out none 0 0 w1 w2 (by rw [HF.out]; exact zbv _ _ _) (by rw [HF.out]; rfl) G1.out HG.out
 ·
  go_wp2_with fail
  refine (HLm.out w1 G1.out).mono ?_
  rintro e w2 ⟨rfl, g⟩
  have G2 := Lib.hid (zad G1.out g)
  replace T0 := Lib.hid (zab g T0.out)
  clear g HLm
  cases mb
  ·
   have HF : Hid (vL = []) := by show vL = []; rw [HvL.out]; unfold cntL; rw [HTo.out]; rfl
   go_wp2_with fail
   refine (HVf.out _ _ _ _).mono ?_
   rintro e w3 ⟨rfl, g⟩
   have HG := Lib.hid g
   clear g
   go_wp2_with fail
   go_ret
   exact HEnd.out none 0 0 w2 w3 (by rw [HF.out]; exact zbv _ _ _) (by rw [HF.out]; rfl) G2.out HG.out
  ·
   go_wp2_with fail
   refine (HSm.out w2 G2.out).mono ?_
   rintro e w3 ⟨rfl, g⟩
   have G3 := Lib.hid (zad G2.out g)
   replace T0 := Lib.hid (zab g T0.out)
   clear g HSm G1 G2
   cases mc
   ·
    have HF : Hid (vL = []) := by show vL = []; rw [HvL.out]; unfold cntL; rw [HTo.out]; rfl
    go_wp2_with fail
    refine (HVf.out _ _ _ _).mono ?_
    rintro e w4 ⟨rfl, g⟩
    have HG := Lib.hid g
    clear g
    go_wp2_with fail
    go_ret
    exact HEnd.out none 0 0 w3 w4 (by rw [HF.out]; exact zbv _ _ _) (by rw [HF.out]; rfl) G3.out HG.out
   ·
    have HF : Hid (vL = ls.filter (cntB l bal)) := by show vL = _; rw [HvL.out]; unfold cntL; rw [HTo.out]; rfl
    go_wp2_with fail
    go_loopw [7, 22] (fun v i wr => ∃ (j : Nat), j ≤ n ∧ i = .int .i64 (j : Int) ∧ OwnE Elk wr w.heap.size v ((ls.take j).filter (cntB l bal)) ∧ Below w.heap.size w wr ∧ wr.heap[w.heap.size]? = some (.cells (tr ⟨s⟩) 28 (0, 0)) ∧ (∀ k, v.ownBlock = some k → w.heap.size < k)) (fun _ i _ => n - (intOf i).toNat)
    case atStart => exact ⟨0, Nat.zero_le _, rfl, zbv _ _ _, G3.out, T0.out, fun k e => by cases e⟩
    case round =>
     obtain ⟨j, hj, rfl, ho, hg, ht, hne⟩ := hrel
     have HO := Lib.hid ho
     have HG := Lib.hid hg
     have HT := Lib.hid ht
     have HNe := Lib.hid hne
     clear ho hg ht hne T0 G3
     by_cases hlt : j < n
     ·
      have i0 : (0 : Int) ≤ (j : Int) := by omega
      have i1 : (j : Int) < (n : Int) := by omega
      have d0 : decide ((j : Int) < (n : Int)) = true := decide_eq_true i1
      have d0' : decide (j < n) = true := decide_eq_true hlt
      have u1 : (j : Int) + 1 < 10000 := by have := HN.out; omega
      have HLT := Lib.hid hlt
      obtain ⟨b1, o1, rfl, q1, x1⟩ := zjm K.out (by have := HL.out; omega)
      have y1 := Go.Proofs.YtmihlihlpdkdcaaGreat.keep HG.out (zob x1 (i := j) (by have := HL.out; omega))
      have HTk : Hid ((ls.take (j + 1)).filter (cntB l bal) = (ls.take j).filter (cntB l bal) ++ (if cntB l bal (lkAt ls j) = true then [lkAt ls j] else [])) := by
       show _ = _
       rw [List.take_add_one, List.getElem?_eq_getElem (by have := HL.out; omega), List.filter_append, zcm (by have := HL.out; omega)]
       congr 1
       show List.filter _ [_] = _
       rw [List.filter_cons]
       rfl
      generalize lkAt ls j = X at *
      obtain ⟨cb, hcb⟩ : ∃ b, b = za7 l X.t X.s := ⟨_, rfl⟩
      obtain ⟨cm, hcm⟩ : ∃ b, b = yms bal X.mask := ⟨_, rfl⟩
      have HCb := Lib.hid (HBh.out X.t X.s)
      have HCm := Lib.hid (HSt.out X.mask)
      rw [← hcb] at HCb
      rw [← hcm] at HCm
      have HCc : Hid (cntB l bal X = (cb && cm)) := by show _ = _; rw [hcb, hcm]; rfl
      have HKl : Hid (((ls.take j).filter (cntB l bal)).length ≤ 1000) := by
       show _ ≤ _
       have := List.length_filter_le (cntB l bal) (ls.take j)
       rw [List.length_take] at this
       have := HN.out
       omega
      rw [HCc.out] at HTk
      obtain ⟨k, hk⟩ : ∃ k, k = (ls.take j).filter (cntB l bal) := ⟨_, rfl⟩
      rw [← hk] at HO HTk HKl
      clear x1 q1 hlt hj hcb hcm hk
      go_upto_region 6 with fail
      obtain ⟨W5, hW5⟩ : ∃ W5, W5 = wr.alloc (.cells (lk X) 110) := ⟨_, rfl⟩
      rw [← hW5]
      have g5 : Below wr.heap.size wr W5 := by rw [hW5]; exact below1
      have X5 : Hid (W5.heap[wr.heap.size]? = some (.cells (lk X) 110 (0, 0))) := by show _ = _; rw [hW5]; exact heap_alloc_last wr _
      replace HG := Lib.hid (zad HG.out g5)
      replace HT := Lib.hid (zab g5 HT.out)
      replace HO := Lib.hid (zah g5 HO.out)
      obtain ⟨Q, hQ⟩ : ∃ Q, Q = wr.heap.size := ⟨_, rfl⟩
      rw [← hQ] at X5 ⊢
      clear hW5 y1 hQ g5
      have z1 := (lk_v X5.out).m
      go_wp2_with fail
      refine (HCm.out _ HG.out).mono ?_
      rintro e w5 ⟨rfl, g⟩
      replace HG := Lib.hid (zad HG.out g)
      replace HT := Lib.hid (zab g HT.out)
      replace X5 := Lib.hid (zab g X5.out)
      replace HO := Lib.hid (zah g HO.out)
      clear g z1
      have z0 := (za2 HT.out).2.1
      have z1 := (lk_v X5.out).s
      have z2 := (lk_v X5.out).t
      cases cm
      ·
       go_wp2_with fail
       go_roundw
       case rel => exact ⟨j + 1, HLT.out, by go_num, by rw [HTk.out, Bool.and_false, if_neg Bool.false_ne_true, List.append_nil]; exact HO.out, HG.out, HT.out, HNe.out⟩
       case measure => simp [intOf]; have := HLT.out; omega
      ·
       go_wp2_with fail
       refine (HCb.out _ HG.out).mono ?_
       rintro e w6 ⟨rfl, g⟩
       replace HG := Lib.hid (zad HG.out g)
       replace HT := Lib.hid (zab g HT.out)
       replace X5 := Lib.hid (zab g X5.out)
       replace HO := Lib.hid (zah g HO.out)
       clear g z0 z1 z2
       cases cb
       ·
        go_wp2_with fail
        go_roundw
        case rel => exact ⟨j + 1, HLT.out, by go_num, by rw [HTk.out, Bool.false_and, if_neg Bool.false_ne_true, List.append_nil]; exact HO.out, HG.out, HT.out, HNe.out⟩
        case measure => simp [intOf]; have := HLT.out; omega
       ·
        have z1 := (lk_v X5.out).a
        go_wp2_with (at_builtin; refine zbs Klk _ rfl _ _ rfl w.heap.size _ k rfl (za6 HO.out _) _ [X] rfl (yh9 _ X _ rfl) (by have := HKl.out; simp; omega) (by have := HG.out.size; simp; omega) ?_; intro v' w7 ho7 hg7)
        go_roundw
        case rel =>
         have h1 : ∀ q, v'.ownBlock = some q → w.heap.size < q := fun q hq => by
          rcases hg7.2 with e | e
          ·
           exact HNe.out q (e.symm.trans hq)
          ·
           have := e q hq; simp at this; have := (Array.getElem?_eq_some_iff.1 HT.out).1; omega
         have h2 : Below w.heap.size w w7 := (zad HG.out below1).trans (hg7.own (za6 HO.out _) (by have := HG.out.size; simp; omega))
         exact ⟨j + 1, HLT.out, by go_num, by rw [HTk.out, Bool.true_and, if_pos rfl]; exact ho7, h2, hg7.alloc.heap HT.out (fun e => by have := HNe.out _ e; omega), h1⟩
        case measure => simp [intOf]; have := HLT.out; omega
     ·
      obtain rfl : j = n := by omega
      have d0 : decide ((j : Int) < (j : Int)) = false := decide_eq_false (Int.lt_irrefl _)
      have d0' : decide (j < j) = false := decide_eq_false (Nat.lt_irrefl _)
      rw [List.take_of_length_le (by rw [HL.out]; exact Nat.le_refl _), ← HF.out] at HO
      obtain ⟨pv, cv, rfl⟩ := zfa HO.out
      have HLv : Hid (∃ m, vL.length = m) := ⟨_, rfl⟩
      obtain ⟨m, hm⟩ := HLv.out
      rw [hm] at HO
      have HM := Lib.hid hm
      rw [hm]
      clear hlt hm HLv
      go_wp2_with fail
      refine (HVf.out _ _ _ _).mono ?_
      rintro e w4 ⟨rfl, g⟩
      have HGe := Lib.hid g
      clear g
      go_wp2_with fail
      go_ret
      exact HEnd.out pv m cv wr w4 HO.out HM.out HG.out HGe.out
theorem zvg (s : SlV) (u vb : Value) (l : List Nd) (ls : List Lk) (bal : List UInt64) (w : World) (h : SlE Ene w (sv s) l) (h1 : SlE Elk w u ls) (h2 : SlE Enum w vb bal) (hn : ls.length ≤ 1000) :
  Calls Tryz.prog 130 #[.agg (tr ⟨s⟩), u, vb] w (yph l ls bal w) := by
 have k := h1
 obtain ⟨p, cp, rfl, _⟩ := zaj h1
 exact yal s p _ cp vb l ls bal w h k h2 rfl hn
section
open Go.Maps
def setC : List Ck → DataW Unit
 | [] => .map []
 | c :: l => (setC l).put (ck c) (.agg [])
theorem zmp : ∀ l, Tidy (setC l)
 | [] => tidy_empty
 | _ :: l => (zmp l).put (z5v _) _
theorem zqs (c : Ck) : ∀ l, Maps.has (setC l) (ck c) = decide (c ∈ l)
 | [] => by rw [decide_eq_false List.not_mem_nil]; rfl
 | a :: l => by
  unfold setC
  by_cases e : a = c
  ·
   subst e
   rw [has_put_same (zmp l).isMap (z5v a)]
   exact (decide_eq_true List.mem_cons_self).symm
  ·
   rw [has_put_other (fun h => e (yum h).symm), zqs c l]
   exact decide_eq_decide.2 ⟨List.mem_cons_of_mem _, fun h => (List.mem_cons.1 h).resolve_left (fun h2 => e h2.symm)⟩
def OwnsC (W : World) (b N : Nat) (S : List Ck) : Prop := ∃ (n : Nat) (k : List Ck), n ≤ N ∧ (∀ c, c ∈ k ↔ c ∈ S) ∧ W.ownsMap Tryz.prog 37 (unitElem (H := Unit)) b n (setC k)
theorem OwnsC.keep {W W' : World} {b N : Nat} {S : List Ck} (h : OwnsC W b N S) (g : Below W.heap.size W W') : OwnsC W' b N S := by
 obtain ⟨n, k, h1, h2, h3⟩ := h
 exact ⟨n, k, h1, h2, zb6 g h3⟩
theorem OwnsC.blk {W W' : World} {b N : Nat} {S : List Ck} (h : OwnsC W b N S) (e : W'.heap[b]? = W.heap[b]?) : OwnsC W' b N S := by
 obtain ⟨n, k, h1, h2, es, clock, hb, h3⟩ := h
 exact ⟨n, k, h1, h2, es, clock, e.trans hb, h3⟩
theorem OwnsC.lt {W : World} {b N : Nat} {S : List Ck} (h : OwnsC W b N S) : b < W.heap.size := by
 obtain ⟨n, k, h1, h2, es, clock, hb, h3⟩ := h
 exact (Array.getElem?_eq_some_iff.1 hb).1
theorem OwnsC.same {W : World} {b N M : Nat} {S T : List Ck} (h : OwnsC W b N S) (hN : N ≤ M) (e : ∀ c, c ∈ S ↔ c ∈ T) : OwnsC W b M T := by
 obtain ⟨n, k, h1, h2, h3⟩ := h
 exact ⟨n, k, Nat.le_trans h1 hN, fun c => (h2 c).trans (e c), h3⟩
theorem z96 (w : World) : OwnsC (w.alloc (.map #[] 0)) w.heap.size 0 [] := ⟨0, [], Nat.le_refl _, fun _ => Iff.rfl, World.ownsMap_made _ _ _ _⟩
theorem znq (w : World) : (zeroValue 122).run Tryz.prog w = .ok (.agg #[]) w := by kernel_rfl
end
section
open Go.Maps
theorem z2p {a w w' : World} {row : Option Nat} (h : Below a.heap.size a w) (k : w.grownBy w' row) : a.grownBy w' row :=
 ⟨k.os.trans h.os, k.tape.trans h.tape, k.output.trans h.output, Nat.le_trans h.size k.size, fun i hi hr => (k.block i (Nat.lt_of_lt_of_le hi h.size) hr).trans (h.block i hi)⟩
theorem z02 {P : Program} {T k e : TypeId} (hu : P.underlying T = some (.map k e)) (n : Int) (w : World) : (Instr.makeMap T (some (.int .i64 n))).run P w = .ok (.map (some w.heap.size)) (w.alloc (.map #[] 0)) := by
 simp only [Instr.makeMap]
 simp [run_underlying hu, asInt]
 rfl
theorem zqx (b N : Nat) (S : List Ck) (c : Ck) (w : World) (h : OwnsC w b N S) :
  Calls Tryz.prog 132 #[.map (some b), .agg (cc c)] w fun e w' => e = .returned (.bool (decide (c ∈ S))) ∧ Below w.heap.size w w' := by
 obtain ⟨n, k, h1, h2, h3⟩ := h
 have hr : decide (c ∈ S) = Maps.has (setC k) (ck c) := by rw [zqs]; exact decide_eq_decide.2 (h2 c).symm
 rw [hr]
 obtain ⟨W0, hW0⟩ : ∃ W0, W0 = w.alloc (.cells (cc c) 37) := ⟨_, rfl⟩
 have HB : Hid (Below w.heap.size w W0) := by rw [hW0]; exact below1
 have HO : Hid (W0.ownsMap Tryz.prog 37 (unitElem (H := Unit)) b n (setC k)) := zb6 HB.out h3
 have z0 : ldA W0 (.pointer (some ⟨w.heap.size, 0, none⟩)) 33 = some (cc c) := by rw [hW0]; exact (ck_v (heap_alloc_last w _)).a
 have HW := Lib.hid hW0
 obtain ⟨D, hD⟩ : ∃ D, D = setC k := ⟨_, rfl⟩
 rw [← hD] at HO ⊢
 clear hW0 h1 h2 h3 hr hD
 go_enter Tryz.func132, Tryz.ntmps132
 go_upto_region 1 with fail
 rw [← HW.out]
 go_wp2_with (at_lookup; refine wpList_lookup_own_unit _ rfl _ _ 178 rfl 37 122 keyed_cc Tryz.underlying178 (znq _) b n D rfl HO.out _ _ rfl (zn5 c) ?_)
 go_ret
 exact ⟨rfl, zad HB.out below1⟩
theorem zyn (b N : Nat) (S : List Ck) (c : Ck) (w : World) (h : OwnsC w b N S) (hN : N ≤ 10000) :
  Calls Tryz.prog 133 #[.map (some b), .agg (cc c)] w fun e w' => (∃ v, e = .returned v) ∧ OwnsC w' b (N + 1) (S ++ [c]) ∧ w.grownBy w' (some b) := by
 obtain ⟨n, k, h1, h2, h3⟩ := h
 have HE : Hid (∀ w', w'.ownsMap Tryz.prog 37 (unitElem (H := Unit)) b (n + 1) ((setC k).put (ck c) (.agg [])) → OwnsC w' b (N + 1) (S ++ [c])) := fun w' g => ⟨n + 1, c :: k, by omega, fun d => by rw [List.mem_cons, List.mem_append, List.mem_singleton, h2 d]; exact Or.comm, g⟩
 have HN : Hid (n ≤ 10000) := by show n ≤ 10000; omega
 have HO := Lib.hid h3
 obtain ⟨D, hD⟩ : ∃ D, D = setC k := ⟨_, rfl⟩
 rw [← hD] at HO HE
 clear h1 h2 h3 hD
 go_enter Tryz.func133, Tryz.ntmps133
 go_wp2_with (at_mapUpdate; refine wpList_mapUpdate_own _ rfl _ _ _ 178 rfl 37 122 keyed_cc Tryz.underlying178 (unitElem (H := Unit)) b n _ rfl (HO.out.alloc _) (by unfold maxLen; have := HN.out; omega) _ _ _ rfl rfl (zn5 c) _ [] unitElem_mk ?_; intro w1 hown1 hgrow1)
 go_end0
 exact ⟨⟨_, rfl⟩, HE.out _ hown1, z2p below1 hgrow1⟩
theorem zsu (p : Option Addr) (n cp : Nat) (l : List Ck) (w : World) (h : SlE Ecc w (.slice p n cp) l) (hl : l.length = n) (hn : n ≤ 2000) :
  Calls Tryz.prog 131 #[.slice p n cp] w fun e w' => e = .returned (.map (some w.heap.size)) ∧ OwnsC w' w.heap.size n l ∧ Below w.heap.size w w' := by
 have hmm := z02 (P := Tryz.prog) Tryz.underlying178
 have K := Lib.hid h
 have HL := Lib.hid hl
 have HN := Lib.hid hn
 clear h hl hn
 go_enter Tryz.func131, Tryz.ntmps131
 go_wp2_with fail
 go_loopw [11] (fun i wr => ∃ j : Nat, j ≤ n ∧ i = .int .i64 (j : Int) ∧ OwnsC wr w.heap.size j (l.take j) ∧ Below w.heap.size w wr) (fun i _ => n - (intOf i).toNat)
 case atStart => exact ⟨0, Nat.zero_le _, rfl, z96 _, below1⟩
 case round =>
  obtain ⟨j, hj, rfl, hown, hb⟩ := hrel
  have HO := Lib.hid hown
  have HBB := Lib.hid hb
  clear hown hb
  by_cases hlt : j < n
  ·
   have i0 : (0 : Int) ≤ (j : Int) := by omega
   have i1 : (j : Int) < (n : Int) := by omega
   have d0 : decide ((j : Int) < (n : Int)) = true := decide_eq_true i1
   have d0' : decide (j < n) = true := decide_eq_true hlt
   have u1 : (j : Int) + 1 < 10000 := by have := HN.out; omega
   have HLT := Lib.hid hlt
   obtain ⟨b1, o1, rfl, q1, x1⟩ := zim K.out (by have := HL.out; omega)
   have y1 := Go.Proofs.YtmihlihlpdkdcaaGreat.keep HBB.out (zkh x1 (i := j) (by have := HL.out; omega))
   have HS : Hid (l.take (j + 1) = l.take j ++ [ckAt l j]) := by
    show _ = _
    rw [zhw (by have := HL.out; omega), List.take_add_one, List.getElem?_eq_getElem (by have := HL.out; omega)]
    rfl
   generalize ckAt l j = C at *
   have HPt := Lib.hid (fun W (g : Below wr.heap.size wr W) => zyn w.heap.size j (l.take j) C W (HO.out.keep g) (by have := HN.out; have := HLT.out; omega))
   clear x1 q1 hlt hj
   go_wp2_with fail
   refine (HPt.out _ below1).mono ?_
   rintro e w2 ⟨⟨v, rfl⟩, hown, hg⟩
   rw [← HS.out] at hown
   have HO2 := Lib.hid hown
   have HB2 : Hid (Below w.heap.size w w2) := (zad HBB.out below1).grown hg (by simp; have := HO.out.lt; omega) (fun k hk => by cases hk; exact Nat.le_refl _)
   clear hown hg
   go_wp2_with fail
   go_roundw
   case rel => exact ⟨j + 1, HLT.out, by go_num, HO2.out, HB2.out⟩
   case measure => simp [intOf]; have := HLT.out; omega
  ·
   obtain rfl : j = n := by omega
   have d0 : decide ((j : Int) < (j : Int)) = false := decide_eq_false (Int.lt_irrefl _)
   have d0' : decide (j < j) = false := decide_eq_false (Nat.lt_irrefl _)
   have HF : Hid (OwnsC wr w.heap.size j l) := by
    have := HO.out
    rwa [List.take_of_length_le (by rw [HL.out]; exact Nat.le_refl _)] at this
   clear hlt
   go_wp2_with fail
   go_ret
   exact ⟨rfl, HF.out, HBB.out⟩
theorem ypn (v : Value) (l : List Ck) (w : World) (h : SlE Ecc w v l) (hn : l.length ≤ 2000) :
  Calls Tryz.prog 131 #[v] w fun e w' => e = .returned (.map (some w.heap.size)) ∧ OwnsC w' w.heap.size l.length l ∧ Below w.heap.size w w' := by
 have k := h
 obtain ⟨p, cp, rfl, _⟩ := zaj h
 exact zsu p _ cp l w k rfl hn
end
end Go.Proofs.YtmihlihlpdkdcaaGreat
