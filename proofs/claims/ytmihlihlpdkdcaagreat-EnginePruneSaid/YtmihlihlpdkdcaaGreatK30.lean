import Derived.Test.YtmihlihlpdkdcaaGreatK29
import Derived.Test.YtmihlihlpdkdcaaGreatK11
import Derived.Laws.Bits64b
import Derived.Laws.Externs
import Derived.Test.YtmihlihlpdkdcaaGreatK21
import Derived.Test.YtmihlihlpdkdcaaGreatQ03
import Derived.Test.YtmihlihlpdkdcaaGreatQ05
import Derived.Test.YtmihlihlpdkdcaaGreatK28
import Derived.Test.YtmihlihlpdkdcaaGreatQ04
namespace Go.Proofs.YtmihlihlpdkdcaaGreat
open Go.RowKit
set_option maxRecDepth 200000
set_option maxHeartbeats 64000000
theorem yen (x y : Nat) (w : World) : (callFunc 155 #[.int .u64 (x : Int), .int .u64 (y : Int), .int .u64 0]).run Tryz.prog w =
  .ok (.value (.tuple #[.int .u64 (((x + y) % 18446744073709551616 : Nat) : Int), .int .u64 (((x + y) / 18446744073709551616 : Nat) : Int)])) w := by
 rw [run_callFunc_extern Tryz.func155 (by kernel_rfl) (by kernel_rfl) (by kernel_rfl) (e := add64Entry) (by kernel_rfl), run_add64 (x : Int) (y : Int) 0 (by omega) (by omega) (by omega) (by omega)]
 simp [Result.andThen]
theorem zyd (n : Int) (b : Bool) (w : World) :
  Calls Tryz.prog 150 #[.agg #[.int .u64 n, .bool b]] w fun e w' => e = .returned (.tuple #[.int .u64 (if b = true then n else 0), .bool b]) ∧ Below w.heap.size w w' := by
 cases b
 ·
  go_enter Tryz.func150, Tryz.ntmps150
  go_wp2
  go_ret2
  exact ⟨rfl, (Below.refl _ _).alloc (Nat.le_refl _) _⟩
 ·
  go_enter Tryz.func150, Tryz.ntmps150
  go_wp2
  go_ret2
  exact ⟨rfl, (Below.refl _ _).alloc (Nat.le_refl _) _⟩
theorem ya3 (l : Int) (w : World) :
  Calls Tryz.prog 156 #[.agg #[.int .u64 0, .int .u64 l]] w fun e w' => e = .returned (.agg #[.int .u64 l, .bool true]) ∧ ∃ c1 c2, w' = (w.alloc (.cells c1 212)).alloc (.cells c2 203) := by
 go_enter Tryz.func156, Tryz.ntmps156
 go_wp2
 exact bodyPost_ret (v := .agg #[.int .u64 l, .bool true]) (by simp [results, Tryz.results156, go_sem]) rfl ⟨rfl, _, _, rfl⟩
theorem yb7 (h l : Int) (hh : (h == 0) = false) (w : World) :
  Calls Tryz.prog 156 #[.agg #[.int .u64 h, .int .u64 l]] w fun e w' => e = .returned (.agg #[.int .u64 l, .bool false]) ∧ ∃ c1 c2, w' = (w.alloc (.cells c1 212)).alloc (.cells c2 203) := by
 go_enter Tryz.func156, Tryz.ntmps156
 go_wp2
 exact bodyPost_ret (v := .agg #[.int .u64 l, .bool false]) (by simp [results, Tryz.results156, go_sem]) rfl ⟨rfl, _, _, rfl⟩
theorem yu2 (a b : Nat) (ha : a < 18446744073709551616) (hb : b < 18446744073709551616) (w : World) :
  Calls Tryz.prog 149 #[.int .u64 (a : Int), .int .u64 (b : Int)] w fun e w' => e = .returned (.agg #[.int .u64 (((a + b) % 18446744073709551616 : Nat) : Int), .bool (zox a b)]) ∧ Below w.heap.size w w' := by
 have e1 := fun w : World => yen a b w
 obtain ⟨lo, hlo⟩ : ∃ x, x = (a + b) % 18446744073709551616 := ⟨_, rfl⟩
 obtain ⟨hi, hhi⟩ : ∃ x, x = (a + b) / 18446744073709551616 := ⟨_, rfl⟩
 rw [← hlo] at e1 ⊢
 rw [← hhi] at e1
 by_cases h : a + b < 18446744073709551616
 ·
  rw [show zox a b = true from decide_eq_true h]
  obtain rfl : hi = 0 := by omega
  clear h ha hb hlo hhi
  go_enter Tryz.func149, Tryz.ntmps149
  go_wp2_with fail
  refine (ya3 _ _).mono ?_
  rintro e w1 ⟨rfl, c1, c2, rfl⟩
  go_wp2_with fail
  exact bodyPost_ret (v := .agg #[.int .u64 (lo : Int), .bool true]) (by simp [results, Tryz.results149, go_sem]) rfl ⟨rfl, zad (zad below1 below1) below1⟩
 ·
  rw [show zox a b = false from decide_eq_false h]
  have t0 : ((hi : Int) == 0) = false := beq_eq_false_iff_ne.2 (by omega)
  have T0 := Lib.hid t0
  clear h ha hb hlo hhi t0
  go_enter Tryz.func149, Tryz.ntmps149
  go_wp2_with fail
  refine (yb7 _ _ T0.out _).mono ?_
  rintro e w1 ⟨rfl, c1, c2, rfl⟩
  go_wp2_with fail
  exact bodyPost_ret (v := .agg #[.int .u64 (lo : Int), .bool false]) (by simp [results, Tryz.results149, go_sem]) rfl ⟨rfl, zad (zad below1 below1) below1⟩
theorem ydx (a b : Nat) (w : World) :
  Calls Tryz.prog 161 #[.int .u64 (a : Int), .int .u64 (b : Int)] w fun e w' => e = .returned (.agg #[.int .u64 (IntKind.u64.wrap ((a : Int) - (b : Int))), .bool (zf8 a b)]) ∧ Below w.heap.size w w' := by
 have t0 : decide ((b : Int) ≤ (a : Int)) = zf8 a b := by unfold zf8; congr 1; rw [eq_iff_iff]; omega
 have t0' : decide (b ≤ a) = zf8 a b := rfl
 obtain ⟨ok, hok⟩ : ∃ x, x = zf8 a b := ⟨_, rfl⟩
 obtain ⟨d, hd⟩ : ∃ d, d = IntKind.u64.wrap ((a : Int) - (b : Int)) := ⟨_, rfl⟩
 rw [← hok] at t0 t0' ⊢
 rw [← hd]
 have HD := Lib.hid hd
 clear hok hd
 go_enter Tryz.func161, Tryz.ntmps161
 go_wp2_with fail
 (try rw [← HD.out])
 exact bodyPost_ret (v := .agg #[.int .u64 d, .bool ok]) (by simp [results, Tryz.results161, go_sem, HD.out]) rfl ⟨rfl, below1⟩
theorem yor (a b : Nat) (ha : a < 18446744073709551616) (hb : b < 18446744073709551616) (w : World) :
  Calls Tryz.prog 127 #[.int .u64 (a : Int), .int .u64 (b : Int)] w fun e w' => e = .returned (.tuple #[.int .u64 (addV a b : Int), .bool (zox a b)]) ∧ Below w.heap.size w w' := by
 have c := Lib.hid (yu2 a b ha hb w)
 have d := Lib.hid (zyd (((a + b) % 18446744073709551616 : Nat) : Int) (zox a b))
 have e1 : (if zox a b = true then (((a + b) % 18446744073709551616 : Nat) : Int) else 0) = (addV a b : Int) := by
  unfold zox addV
  by_cases h : a + b < 18446744073709551616
  ·
   rw [if_pos h, if_pos (decide_eq_true h)]; omega
  ·
   rw [if_neg h, if_neg (by rw [decide_eq_true_iff]; exact h)]; rfl
 rw [e1] at d
 obtain ⟨m, hm⟩ : ∃ m, m = (a + b) % 18446744073709551616 := ⟨_, rfl⟩
 obtain ⟨v, hv⟩ : ∃ v, v = addV a b := ⟨_, rfl⟩
 obtain ⟨ok, hok⟩ : ∃ x, x = zox a b := ⟨_, rfl⟩
 rw [← hm, ← hok] at c
 rw [← hm, ← hv, ← hok] at d
 rw [← hv, ← hok]
 clear e1 ha hb hm hv hok
 go_enter Tryz.func127, Tryz.ntmps127
 go_wp2_with fail
 refine c.out.mono ?_
 rintro e w1 ⟨rfl, h1⟩
 go_wp2_with fail
 refine (d.out w1).mono ?_
 rintro e w2 ⟨rfl, h2⟩
 go_wp2_with fail
 go_ret2
 exact ⟨rfl, zad h1 h2⟩
theorem zy1 : ∀ args w, (callFunc 127 args).run Tryz.prog w = .ok (.enter 127 args) w := zbb Tryz.func127 (by kernel_rfl) (by kernel_rfl)
theorem zzo (a b : Nat) (ha : a < 18446744073709551616) : (if zf8 a b = true then IntKind.u64.wrap ((a : Int) - (b : Int)) else 0) = (ztt a b : Int) := by
 unfold zf8 ztt
 by_cases h : b ≤ a
 ·
  rw [if_pos h, if_pos (decide_eq_true h), IntKind.wrap_u64]; omega
 ·
  rw [if_neg h, if_neg (by rw [decide_eq_true_iff]; exact h)]; rfl
theorem yfn (a b : Nat) (ha : a < 18446744073709551616) (w : World) :
  Calls Tryz.prog 153 #[.int .u64 (a : Int), .int .u64 (b : Int)] w fun e w' => e = .returned (.tuple #[.int .u64 (ztt a b : Int), .bool (zf8 a b)]) ∧ Below w.heap.size w w' := by
 have c := Lib.hid (ydx a b w)
 have d := Lib.hid (zyd (IntKind.u64.wrap ((a : Int) - (b : Int))) (zf8 a b))
 rw [zzo a b ha] at d
 obtain ⟨m, hm⟩ : ∃ m, m = IntKind.u64.wrap ((a : Int) - (b : Int)) := ⟨_, rfl⟩
 obtain ⟨v, hv⟩ : ∃ v, v = ztt a b := ⟨_, rfl⟩
 obtain ⟨ok, hok⟩ : ∃ x, x = zf8 a b := ⟨_, rfl⟩
 rw [← hm, ← hok] at c
 rw [← hm, ← hv, ← hok] at d
 rw [← hv, ← hok]
 clear ha hm hv hok
 go_enter Tryz.func153, Tryz.ntmps153
 go_wp2_with fail
 refine c.out.mono ?_
 rintro e w1 ⟨rfl, h1⟩
 go_wp2_with fail
 refine (d.out w1).mono ?_
 rintro e w2 ⟨rfl, h2⟩
 go_wp2_with fail
 go_ret2
 exact ⟨rfl, zad h1 h2⟩
theorem zif : ∀ args w, (callFunc 153 args).run Tryz.prog w = .ok (.enter 153 args) w := zbb Tryz.func153 (by kernel_rfl) (by kernel_rfl)
theorem yu3 (m : Int) (b : Bool) (w : World) :
  Calls Tryz.prog 162 #[.func (.func 150) #[.agg #[.int .u64 m, .bool b]] #[], .int .u64 0] w fun e w' => e = .returned (.int .u64 (if b = true then m else 0)) ∧ Below w.heap.size w w' := by
 have d := Lib.hid (zyd m b)
 cases b
 ·
  go_enter Tryz.func162, Tryz.ntmps162
  go_wp2_with fail
  refine (d.out w).mono ?_
  rintro e w2 ⟨rfl, h2⟩
  go_wp2_with fail
  go_ret
  exact ⟨rfl, h2⟩
 ·
  go_enter Tryz.func162, Tryz.ntmps162
  go_wp2_with fail
  refine (d.out w).mono ?_
  rintro e w2 ⟨rfl, h2⟩
  go_wp2_with fail
  go_ret
  exact ⟨rfl, h2⟩
theorem yqr (a b : Nat) (ha : a < 18446744073709551616) (w : World) :
  Calls Tryz.prog 154 #[.int .u64 (a : Int), .int .u64 (b : Int)] w fun e w' => e = .returned (.int .u64 (ztt a b : Int)) ∧ Below w.heap.size w w' := by
 have c := Lib.hid (ydx a b w)
 have d := Lib.hid (yu3 (IntKind.u64.wrap ((a : Int) - (b : Int))) (zf8 a b))
 rw [zzo a b ha] at d
 obtain ⟨m, hm⟩ : ∃ m, m = IntKind.u64.wrap ((a : Int) - (b : Int)) := ⟨_, rfl⟩
 obtain ⟨v, hv⟩ : ∃ v, v = ztt a b := ⟨_, rfl⟩
 obtain ⟨ok, hok⟩ : ∃ x, x = zf8 a b := ⟨_, rfl⟩
 rw [← hm, ← hok] at c
 rw [← hm, ← hv, ← hok] at d
 rw [← hv]
 clear ha hm hv hok
 go_enter Tryz.func154, Tryz.ntmps154
 go_wp2_with fail
 refine c.out.mono ?_
 rintro e w1 ⟨rfl, h1⟩
 go_wp2_with fail
 refine (d.out w1).mono ?_
 rintro e w2 ⟨rfl, h2⟩
 go_wp2_with fail
 go_ret
 exact ⟨rfl, zad h1 h2⟩
theorem zuh : ∀ args w, (callFunc 154 args).run Tryz.prog w = .ok (.enter 154 args) w := zbb Tryz.func154 (by kernel_rfl) (by kernel_rfl)
structure Ch where
 l : SlV
 more : SlV
 less : SlV
def chL (x : Ch) : List Value := [sv x.l] ++ ([sv x.more] ++ ([sv x.less]))
def ch (x : Ch) : Array Value := (chL x).toArray
theorem ysg (x : Ch) : (ch x).toList = chL x := rfl
theorem yvx (x : Ch) : (chL x).length = 3 := by simp [chL]
theorem z2w (x : Ch) : (ch x).size = 3 := by rw [← Array.length_toList, ysg, yvx]
theorem yvo (x : Ch) : ∀ v ∈ chL x, v.oneCell' = true := by
 intro v hv
 unfold chL at hv
 simp only [List.mem_append, List.mem_singleton] at hv
 rcases hv with rfl | rfl | rfl
 ·
  rfl
 ·
  rfl
 ·
  rfl
@[go_sem] theorem yyo (x : Ch) : okA 3 (.agg (ch x)) = true := by
 show ((ch x).size == 3 && (ch x).all (·.oneCell')) = true
 rw [show (ch x).all (·.oneCell') = true from zf1 (yvo x), z2w]; rfl
def zch : Ch := ⟨⟨none, 0, 0⟩, ⟨none, 0, 0⟩, ⟨none, 0, 0⟩⟩
theorem ycl (w : World) : (zeroValue 199).run Tryz.prog w = .ok (.agg (ch zch)) w := by kernel_rfl
@[go_sem ↓] theorem yx7 (ρ : Operand → Value) (dst : Option Tmp) (x : Operand) (ty : TypeId) (pos : String) (after : Array Edge) (guard : Option (Nat × Bool)) (w : World) :
  (execOp ρ { dst, op := .load 199 x, type := ty, pos, after, guard }).run Tryz.prog w = zje (ldA w (ρ x) 3) w (zbe Tryz.prog ρ { dst, op := .load 199 x, type := ty, pos, after, guard } w) :=
 zbp Tryz.isAgg199 Tryz.sizeOf199 ρ dst x ty pos after guard w
@[go_sem ↓] theorem ywl (ρ : Operand → Value) (dst : Option Tmp) (x y : Operand) (ty : TypeId) (pos : String) (after : Array Edge) (guard : Option (Nat × Bool)) (w : World) :
  (execOp ρ { dst, op := .store 199 x y, type := ty, pos, after, guard }).run Tryz.prog w = zjf (wrA w (ρ x) 3 && okA 3 (ρ y)) (stA w (ρ x) (ρ y)) (zbe Tryz.prog ρ { dst, op := .store 199 x y, type := ty, pos, after, guard } w) :=
 zbh Tryz.sizeOf199 ρ dst x y ty pos after guard w
@[go_sem ↓] theorem ywu (ρ : Operand → Value) (dst : Option Tmp) (ty : TypeId) (pos : String) (after : Array Edge) (guard : Option (Nat × Bool)) (w : World) :
  (execOp ρ { dst, op := .alloc 199, type := ty, pos, after, guard }).run Tryz.prog w = .ok (.value (.pointer (some ⟨w.heap.size, 0, none⟩))) (w.alloc (.cells (ch zch) 199)) := by
 unfold execOp
 simp only [Instr.alloc, Sem.run_bind, ycl, Result.andThen_ok]
 rfl
def places_ch : List (Nat × Nat) := [(0, 1), (1, 1), (2, 1)]
theorem yhu : ∀ w : World, ((Tryz.prog.fieldsOf 199).mapM (m := Sem) fun f => do pure (f.offset, ← Go.sizeOf f.type)).run Tryz.prog w = .ok places_ch.toArray w := fun _ => by kernel_rfl
theorem ymd : Tryz.prog.underlying 199 = some (.struct (Tryz.prog.fieldsOf 199)) := by kernel_rfl
@[go_sem ↓] theorem yw9 (ρ : Operand → Value) (dst : Option Tmp) (p : Nat × Operand) (ps : List (Nat × Operand)) (ty : TypeId) (pos : String) (after : Array Edge) (guard : Option (Nat × Bool)) (w : World) :
  (execOp ρ { dst, op := .build 199 (p :: ps).toArray, type := ty, pos, after, guard }).run Tryz.prog w = zhu ((zi1 places_ch (ch zch) ((p.1, ρ p.2) :: ps.map fun p => (p.1, ρ p.2))).map .agg) w (zbe Tryz.prog ρ { dst, op := .build 199 (p :: ps).toArray, type := ty, pos, after, guard } w) :=
 zcb ycl ymd yhu ρ dst (p :: ps).toArray ty pos after guard w
attribute [go_sem] places_ch z2w
theorem zo6 (x : Ch) : chL x = ([]) ++ ([sv x.l] ++ ([sv x.more] ++ ([sv x.less]))) ∧ ([] : List Value).length = 0 := by
 constructor
 ·
  unfold chL; simp
 ·
  rfl
theorem ylv (x : Ch) : (ch x)[0]? = some (sv x.l) := zh9 (zo6 x).1 (zo6 x).2
@[go_sem] theorem yxu (x : Ch) (h : 0 < (ch x).size) : (ch x)[0]'h = sv x.l := by have := ylv x; rw [Array.getElem?_eq_getElem h] at this; exact Option.some.inj this
theorem yrk {w : World} {b off : Nat} {x : Ch} (h : w.rangeAt b off (chL x)) : w.cell? ⟨b, off + 0, none⟩ = some (sv x.l) := zbj h (zo6 x).1 (zo6 x).2
theorem yjl {w : World} {g : Nat} {t : TypeId} {fr : Nat × Nat} {x : Ch} (h : w.heap[g]? = some (.cells (ch x) t fr)) : w.cell? ⟨g, 0, none⟩ = some (sv x.l) := by have := yrk (x := x) (zai h); rwa [Nat.zero_add] at this
theorem z6w (x : Ch) (y : SlV) : zax (ch x) 0 #[sv y] = ch { x with l := y } := by
 rw [za0 (c := ch x) (r := #[sv y]) (zo6 x).1 (zo6 x).2 rfl]
 simp [ch, chL]
theorem zko (x : Ch) : chL x = ([sv x.l]) ++ ([sv x.more] ++ ([sv x.less])) ∧ ([sv x.l] : List Value).length = 1 := by
 constructor
 ·
  unfold chL; simp
 ·
  simp
theorem ybm {w : World} {b off : Nat} {x : Ch} (h : w.rangeAt b off (chL x)) : w.cell? ⟨b, off + 1, none⟩ = some (sv x.more) := zbj h (zko x).1 (zko x).2
theorem z3a {w : World} {g : Nat} {t : TypeId} {fr : Nat × Nat} {x : Ch} (h : w.heap[g]? = some (.cells (ch x) t fr)) : w.cell? ⟨g, 1, none⟩ = some (sv x.more) := by have := ybm (x := x) (zai h); rwa [Nat.zero_add] at this
theorem zr6 (x : Ch) (y : SlV) : zax (ch x) 1 #[sv y] = ch { x with more := y } := by
 rw [za0 (c := ch x) (r := #[sv y]) (zko x).1 (zko x).2 rfl]
 simp [ch, chL]
theorem zkl (x : Ch) : chL x = ([sv x.l] ++ [sv x.more]) ++ ([sv x.less] ++ ([])) ∧ ([sv x.l] ++ [sv x.more] : List Value).length = 2 := by
 constructor
 ·
  unfold chL; simp
 ·
  simp
theorem z9h {w : World} {b off : Nat} {x : Ch} (h : w.rangeAt b off (chL x)) : w.cell? ⟨b, off + 2, none⟩ = some (sv x.less) := zbj h (zkl x).1 (zkl x).2
theorem z3r {w : World} {g : Nat} {t : TypeId} {fr : Nat × Nat} {x : Ch} (h : w.heap[g]? = some (.cells (ch x) t fr)) : w.cell? ⟨g, 2, none⟩ = some (sv x.less) := by have := z9h (x := x) (zai h); rwa [Nat.zero_add] at this
theorem zrz (x : Ch) (y : SlV) : zax (ch x) 2 #[sv y] = ch { x with less := y } := by
 rw [za0 (c := ch x) (r := #[sv y]) (zkl x).1 (zkl x).2 rfl]
 simp [ch, chL]
attribute [go_sem] z6w zr6 zrz
@[go_sem] theorem ywb (x : Ch) (p : Option Addr) (k c : Nat) : zax (ch x) 0 #[.slice p k c] = ch { x with l := ⟨p, k, c⟩ } := z6w x ⟨p, k, c⟩
@[go_sem] theorem you (x : Ch) (p : Option Addr) (k c : Nat) : zax (ch x) 1 #[.slice p k c] = ch { x with more := ⟨p, k, c⟩ } := zr6 x ⟨p, k, c⟩
@[go_sem] theorem yn1 (x : Ch) (p : Option Addr) (k c : Nat) : zax (ch x) 2 #[.slice p k c] = ch { x with less := ⟨p, k, c⟩ } := zrz x ⟨p, k, c⟩
theorem zkj {w : World} {g : Nat} {x : Ch} (h : w.heap[g]? = some (.cells (ch x) 199 (0, 0))) : w.cell? ⟨g, 0, none⟩ = some (sv x.l) ∧ w.cell? ⟨g, 1, none⟩ = some (sv x.more) ∧ w.cell? ⟨g, 2, none⟩ = some (sv x.less) ∧ ldA w (.pointer (some ⟨g, 0, none⟩)) 3 = some (ch x) ∧ g < w.heap.size :=
 ⟨yjl h, z3a h, z3r h, zaf h (z2w x), (Array.getElem?_eq_some_iff.1 h).1⟩
structure yfk (w0 : World) (g n cp : Nat) (a p q : List UInt64) (m : Nat) (W : World) : Prop where
 below : Below w0.heap.size w0 W
 is : ∃ c, OwnE Enum W w0.heap.size (.slice (some ⟨g, 0, none⟩) n cp) c ∧ z8w n a p q m c
theorem z4w (bp op np cpp bq oq nq cqq : Nat) (g n cp : Nat) (a p q : List UInt64) (m : Nat) (w0 w : World) (hp : SlE Enum w0 (.slice (some ⟨bp, op, none⟩) np cpp) p) (hq : SlE Enum w0 (.slice (some ⟨bq, oq, none⟩) nq cqq) q) (hpn : np = n) (hqn : nq = n) (h : yfk w0 g n cp a p q (m + 1) w) (hmn : m < n) (hr : fn q m ≤ fn p m) :
  Calls Tryz.prog 147 #[.agg (ch ⟨⟨some ⟨g, 0, none⟩, n, cp⟩, ⟨some ⟨bp, op, none⟩, np, cpp⟩, ⟨some ⟨bq, oq, none⟩, nq, cqq⟩⟩), .int .i64 (m : Int)] w fun e w' => ∃ ok, e = .returned (.bool ok) ∧ (ok = true → yfk w0 g n cp a p q m w') ∧ (ok = false → zht (fn a m) (fn p m) (fn q m) = false ∧ Below w0.heap.size w0 w') := by
 obtain ⟨hb, c, ho, hi⟩ := h
 subst hpn
 obtain rfl : nq = np := hqn
 have hlp : p.length = nq := by obtain ⟨_, _, e, _⟩ := zaj hp; injection e with _ e _; exact e.symm
 have hlq : q.length = nq := by obtain ⟨_, _, e, _⟩ := zaj hq; injection e with _ e _; exact e.symm
 have hc : c.length = nq := hi.1
 obtain ⟨b1, o1, e1, hb1, x1⟩ := zcz hp (by omega)
 obtain ⟨b2, o2, e2, hb2, x2⟩ := zcz hq (by omega)
 injection e1 with e1
 injection e1 with e1 e1'
 subst e1 e1'
 injection e2 with e2
 injection e2 with e2 e2'
 subst e2 e2'
 have hpa := zwa hmn hi
 have hpn := z2m hmn hi
 obtain ⟨x, hx⟩ : ∃ x, x = fn c m := ⟨_, rfl⟩
 obtain ⟨y, hy⟩ : ∃ y, y = fn p m := ⟨_, rfl⟩
 obtain ⟨z, hz⟩ : ∃ z, z = fn q m := ⟨_, rfl⟩
 have bx : x < 18446744073709551616 := by rw [hx]; exact zy4 _ _
 have bY : y < 18446744073709551616 := by rw [hy]; exact zy4 _ _
 have bz : z < 18446744073709551616 := by rw [hz]; exact zy4 _ _
 rw [← hx, ← hy, ← hz] at hpa hpn
 rw [← hy, ← hz] at hr
 obtain ⟨W0, hW0⟩ : ∃ W0, W0 = w.alloc (.cells (ch ⟨⟨some ⟨g, 0, none⟩, nq, cp⟩, ⟨some ⟨bp, op, none⟩, nq, cpp⟩, ⟨some ⟨bq, oq, none⟩, nq, cqq⟩⟩) 199) := ⟨_, rfl⟩
 have HB : Hid (Below w0.heap.size w0 W0) := by rw [hW0]; exact zad hb below1
 have M0 : Hid (W0.heap[w.heap.size]? = some (.cells (ch ⟨⟨some ⟨g, 0, none⟩, nq, cp⟩, ⟨some ⟨bp, op, none⟩, nq, cpp⟩, ⟨some ⟨bq, oq, none⟩, nq, cqq⟩⟩) 199 (0, 0))) := by rw [hW0]; exact heap_alloc_last w _
 have HO : Hid (OwnE Enum W0 w0.heap.size (.slice (some ⟨g, 0, none⟩) nq cp) c) := by rw [hW0]; exact za6 ho _
 have HG : Hid (w0.heap.size ≤ g ∧ g < w.heap.size) := zbm ho rfl
 have HW := Lib.hid hW0
 have X1 := Lib.hid x1
 have X2 := Lib.hid x2
 have HC := Lib.hid hc
 have HM2 : Hid (m < c.length ∧ m < p.length ∧ m < q.length) := ⟨by omega, by omega, by omega⟩
 have HX := Lib.hid hx
 have HY := Lib.hid hy
 have HZ := Lib.hid hz
 have i0 : (0 : Int) ≤ (m : Int) := by omega
 have i1 : (m : Int) < (nq : Int) := by omega
 have HPA := Lib.hid hpa
 have HPN := Lib.hid hpn
 have HS := Lib.hid (fun W => yfn y z bY W)
 rw [show zf8 y z = true from decide_eq_true hr, show ztt y z = y - z from if_pos hr] at HS
 have HA := Lib.hid (fun W => yor x (y - z) bx (by omega) W)
 rw [(z61 hr).1, (z61 hr).2] at HA
 obtain ⟨d, hd⟩ : ∃ d, d = y - z := ⟨_, rfl⟩
 rw [← hd] at HS HA
 have HV := Lib.hid (z4y x y z)
 obtain ⟨v, hv⟩ : ∃ v, v = oneV x y z := ⟨_, rfl⟩
 obtain ⟨ok, hok⟩ : ∃ ok, ok = zht x y z := ⟨_, rfl⟩
 rw [← hv, ← hok] at HA
 rw [← hv, ← hok] at HPA
 rw [← hok] at HPN
 rw [← hv] at HV
 clear hW0 hb ho hi hc hx hy hz bx bY bz hp hq hlp hlq hb1 hb2 x1 x2 hpa hpn hr hmn hd hv hok
 go_enter Tryz.func147, Tryz.ntmps147
 go_wp2_with fail
 rw [← HW.out]
 have Y0 := zdg HO.out HM2.out.1
 have Y1 := zca (zhd HB.out X1.out) HM2.out.2.1
 have Y2 := zca (zhd HB.out X2.out) HM2.out.2.2
 rw [← HX.out] at Y0
 rw [← HY.out] at Y1
 rw [← HZ.out] at Y2
 obtain ⟨z0, z1, z2, _, zl⟩ := zkj M0.out
 dsimp only at z0 z1 z2
 rw [zat] at z0 z1 z2
 have La := fun p : Wd W0.drew => za3 z1 p
 have Lb := fun p : Wd W0.drew => za3 z2 p
 have Lc := fun p : Wd W0.drew => za3 Y1 p
 have Ld := fun p : Wd W0.drew => za3 Y2 p
 refine za4 [10] (by kernel_rfl) (by kernel_rfl) (by kernel_rfl) ?_
 repeat (first | (refine zae rfl rfl _ zag ?_; (first | go_big_quiet_step (fail) | quiet_step (fail)); refine wpQuiet_nil ?_) | refine zam rfl ?_)
 refine zau rfl rfl rfl zif #[.int .u64 (y : Int), .int .u64 (z : Int)] rfl ?_
 refine (HS.out _).mono ?_
 rintro e w1 ⟨rfl, g⟩
 refine ⟨_, rfl, g, ?_⟩
 simp only [Act.put, List.setIfInBounds_toArray, List.set_cons_zero, List.set_cons_succ]
 have g1 : Below W0.heap.size W0 w1 := zad (zap (Below.refl _ _) 1) g
 clear g
 repeat (first | (refine zae rfl rfl _ zag ?_; (first | go_big_quiet_step (fail) | quiet_step (fail)); refine wpQuiet_nil ?_) | refine zam rfl ?_)
 refine zbx ?_
 have G1 := Lib.hid (HB.out.trans (g1.mono HB.out.size))
 have M1 := Lib.hid (zab g1 M0.out)
 have O1 := Lib.hid (zah g1 HO.out)
 clear La Lb Lc Ld Y0 Y1 Y2 z0 z1 z2 zl g1
 obtain ⟨z0, z1, z2, _, zl⟩ := zkj M1.out
 dsimp only at z0 z1 z2
 rw [zat] at z0 z1 z2
 have Y0 := zdg O1.out HM2.out.1
 rw [← HX.out] at Y0
 go_wp2_with fail
 refine (HA.out _).mono ?_
 rintro e w2 ⟨rfl, g2⟩
 have G2 := Lib.hid (zad G1.out g2)
 have M2 := Lib.hid (zab g2 M1.out)
 have O2 := Lib.hid (zah g2 O1.out)
 clear z0 z1 z2 zl Y0 g2
 obtain ⟨z0, z1, z2, _, zl⟩ := zkj M2.out
 dsimp only at z0 z1 z2
 rw [zat] at z0 z1 z2
 have Y0 := zdg O2.out HM2.out.1
 have Yf := ziv O2.out HC.out m
 go_wp2_with fail
 go_ret
 exact ⟨ok, rfl, fun e => ⟨G2.out.setCell (p := ⟨g, m, none⟩) HG.out.1 _, _, zrb O2.out HC.out m HV.out, HPA.out e⟩, fun e => ⟨by rw [← HY.out, ← HZ.out]; exact HPN.out e, G2.out.setCell (p := ⟨g, m, none⟩) HG.out.1 _⟩⟩
theorem z48 (bp op np cpp bq oq nq cqq : Nat) (g n cp : Nat) (a p q : List UInt64) (m : Nat) (w0 w : World) (hp : SlE Enum w0 (.slice (some ⟨bp, op, none⟩) np cpp) p) (hq : SlE Enum w0 (.slice (some ⟨bq, oq, none⟩) nq cqq) q) (hpn : np = n) (hqn : nq = n) (h : yfk w0 g n cp a p q (m + 1) w) (hmn : m < n) (hr : ¬ fn q m ≤ fn p m) :
  Calls Tryz.prog 147 #[.agg (ch ⟨⟨some ⟨g, 0, none⟩, n, cp⟩, ⟨some ⟨bp, op, none⟩, np, cpp⟩, ⟨some ⟨bq, oq, none⟩, nq, cqq⟩⟩), .int .i64 (m : Int)] w fun e w' => ∃ ok, e = .returned (.bool ok) ∧ (ok = true → yfk w0 g n cp a p q m w') ∧ (ok = false → zht (fn a m) (fn p m) (fn q m) = false ∧ Below w0.heap.size w0 w') := by
 obtain ⟨hb, c, ho, hi⟩ := h
 subst hpn
 obtain rfl : nq = np := hqn
 have hlp : p.length = nq := by obtain ⟨_, _, e, _⟩ := zaj hp; injection e with _ e _; exact e.symm
 have hlq : q.length = nq := by obtain ⟨_, _, e, _⟩ := zaj hq; injection e with _ e _; exact e.symm
 have hc : c.length = nq := hi.1
 obtain ⟨b1, o1, e1, hb1, x1⟩ := zcz hp (by omega)
 obtain ⟨b2, o2, e2, hb2, x2⟩ := zcz hq (by omega)
 injection e1 with e1
 injection e1 with e1 e1'
 subst e1 e1'
 injection e2 with e2
 injection e2 with e2 e2'
 subst e2 e2'
 have hpa := zwa hmn hi
 have hpn := z2m hmn hi
 obtain ⟨x, hx⟩ : ∃ x, x = fn c m := ⟨_, rfl⟩
 obtain ⟨y, hy⟩ : ∃ y, y = fn p m := ⟨_, rfl⟩
 obtain ⟨z, hz⟩ : ∃ z, z = fn q m := ⟨_, rfl⟩
 have bx : x < 18446744073709551616 := by rw [hx]; exact zy4 _ _
 have bY : y < 18446744073709551616 := by rw [hy]; exact zy4 _ _
 have bz : z < 18446744073709551616 := by rw [hz]; exact zy4 _ _
 rw [← hx, ← hy, ← hz] at hpa hpn
 rw [← hy, ← hz] at hr
 obtain ⟨W0, hW0⟩ : ∃ W0, W0 = w.alloc (.cells (ch ⟨⟨some ⟨g, 0, none⟩, nq, cp⟩, ⟨some ⟨bp, op, none⟩, nq, cpp⟩, ⟨some ⟨bq, oq, none⟩, nq, cqq⟩⟩) 199) := ⟨_, rfl⟩
 have HB : Hid (Below w0.heap.size w0 W0) := by rw [hW0]; exact zad hb below1
 have M0 : Hid (W0.heap[w.heap.size]? = some (.cells (ch ⟨⟨some ⟨g, 0, none⟩, nq, cp⟩, ⟨some ⟨bp, op, none⟩, nq, cpp⟩, ⟨some ⟨bq, oq, none⟩, nq, cqq⟩⟩) 199 (0, 0))) := by rw [hW0]; exact heap_alloc_last w _
 have HO : Hid (OwnE Enum W0 w0.heap.size (.slice (some ⟨g, 0, none⟩) nq cp) c) := by rw [hW0]; exact za6 ho _
 have HG : Hid (w0.heap.size ≤ g ∧ g < w.heap.size) := zbm ho rfl
 have HW := Lib.hid hW0
 have X1 := Lib.hid x1
 have X2 := Lib.hid x2
 have HC := Lib.hid hc
 have HM2 : Hid (m < c.length ∧ m < p.length ∧ m < q.length) := ⟨by omega, by omega, by omega⟩
 have HX := Lib.hid hx
 have HY := Lib.hid hy
 have HZ := Lib.hid hz
 have i0 : (0 : Int) ≤ (m : Int) := by omega
 have i1 : (m : Int) < (nq : Int) := by omega
 have HPA := Lib.hid hpa
 have HPN := Lib.hid hpn
 have HS := Lib.hid (fun W => yfn y z bY W)
 rw [show zf8 y z = false from decide_eq_false hr, show ztt y z = 0 from if_neg hr] at HS
 have HD := Lib.hid (fun W => yqr z y bz W)
 rw [show ztt z y = z - y from if_pos (by omega)] at HD
 have HA := Lib.hid (fun W => yfn x (z - y) bx W)
 rw [(z6b hr bx).1, (z6b hr bx).2] at HA
 obtain ⟨d, hd⟩ : ∃ d, d = z - y := ⟨_, rfl⟩
 rw [← hd] at HD HA
 have HV := Lib.hid (z4y x y z)
 obtain ⟨v, hv⟩ : ∃ v, v = oneV x y z := ⟨_, rfl⟩
 obtain ⟨ok, hok⟩ : ∃ ok, ok = zht x y z := ⟨_, rfl⟩
 rw [← hv, ← hok] at HA
 rw [← hv, ← hok] at HPA
 rw [← hok] at HPN
 rw [← hv] at HV
 clear hW0 hb ho hi hc hx hy hz bx bY bz hp hq hlp hlq hb1 hb2 x1 x2 hpa hpn hr hmn hd hv hok
 go_enter Tryz.func147, Tryz.ntmps147
 go_wp2_with fail
 rw [← HW.out]
 have Y0 := zdg HO.out HM2.out.1
 have Y1 := zca (zhd HB.out X1.out) HM2.out.2.1
 have Y2 := zca (zhd HB.out X2.out) HM2.out.2.2
 rw [← HX.out] at Y0
 rw [← HY.out] at Y1
 rw [← HZ.out] at Y2
 obtain ⟨z0, z1, z2, _, zl⟩ := zkj M0.out
 dsimp only at z0 z1 z2
 rw [zat] at z0 z1 z2
 have La := fun p : Wd W0.drew => za3 z1 p
 have Lb := fun p : Wd W0.drew => za3 z2 p
 have Lc := fun p : Wd W0.drew => za3 Y1 p
 have Ld := fun p : Wd W0.drew => za3 Y2 p
 refine za4 [10] (by kernel_rfl) (by kernel_rfl) (by kernel_rfl) ?_
 repeat (first | (refine zae rfl rfl _ zag ?_; (first | go_big_quiet_step (fail) | quiet_step (fail)); refine wpQuiet_nil ?_) | refine zam rfl ?_)
 refine zau rfl rfl rfl zif #[.int .u64 (y : Int), .int .u64 (z : Int)] rfl ?_
 refine (HS.out _).mono ?_
 rintro e w1 ⟨rfl, g⟩
 refine ⟨_, rfl, g, ?_⟩
 simp only [Act.put, List.setIfInBounds_toArray, List.set_cons_zero, List.set_cons_succ]
 have g1 : Below W0.heap.size W0 w1 := zad (zap (Below.refl _ _) 1) g
 clear g
 repeat (first | (refine zae rfl rfl _ zag ?_; (first | go_big_quiet_step (fail) | quiet_step (fail)); refine wpQuiet_nil ?_) | refine zam rfl ?_)
 refine zbx ?_
 have G1 := Lib.hid (HB.out.trans (g1.mono HB.out.size))
 have M1 := Lib.hid (zab g1 M0.out)
 have O1 := Lib.hid (zah g1 HO.out)
 clear La Lb Lc Ld Y0 Y1 Y2 z0 z1 z2 zl g1
 go_wp2_with fail
 obtain ⟨z0, z1, z2, _, zl⟩ := zkj M1.out
 dsimp only at z0 z1 z2
 rw [zat] at z0 z1 z2
 have Y0 := zdg O1.out HM2.out.1
 have Y1 := zca (zhd G1.out X1.out) HM2.out.2.1
 have Y2 := zca (zhd G1.out X2.out) HM2.out.2.2
 rw [← HX.out] at Y0
 rw [← HY.out] at Y1
 rw [← HZ.out] at Y2
 have La := fun p : Wd w1.drew => za3 z1 p
 have Lb := fun p : Wd w1.drew => za3 z2 p
 have Lc := fun p : Wd w1.drew => za3 Y1 p
 have Ld := fun p : Wd w1.drew => za3 Y2 p
 have Le := fun p : Wd w1.drew => za3 z0 p
 have Lf := fun p : Wd w1.drew => za3 Y0 p
 refine za4 [15, 16] (by kernel_rfl) (by kernel_rfl) (by kernel_rfl) ?_
 repeat (first | (refine zae rfl rfl _ zag ?_; (first | go_big_quiet_step (fail) | quiet_step (fail)); refine wpQuiet_nil ?_) | refine zam rfl ?_)
 refine zau rfl rfl rfl zuh #[.int .u64 (z : Int), .int .u64 (y : Int)] rfl ?_
 refine (HD.out _).mono ?_
 rintro e u ⟨rfl, g⟩
 refine ⟨_, rfl, g, ?_⟩
 simp only [Act.put, List.setIfInBounds_toArray, List.set_cons_zero, List.set_cons_succ]
 have g1 : Below w1.heap.size w1 u := zad (zap (Below.refl _ _) 1) g
 clear g
 repeat (first | (refine zae rfl rfl _ zag ?_; (first | go_big_quiet_step (fail) | quiet_step (fail)); refine wpQuiet_nil ?_) | refine zam rfl ?_)
 refine zau rfl rfl rfl zif #[.int .u64 (x : Int), .int .u64 (d : Int)] rfl ?_
 refine (HA.out _).mono ?_
 rintro e w2 ⟨rfl, g⟩
 refine ⟨_, rfl, g, ?_⟩
 simp only [Act.put, List.setIfInBounds_toArray, List.set_cons_zero, List.set_cons_succ]
 have g2 : Below w1.heap.size w1 w2 := zad g1 g
 clear g g1
 repeat (first | (refine zae rfl rfl _ zag ?_; (first | go_big_quiet_step (fail) | quiet_step (fail)); refine wpQuiet_nil ?_) | refine zam rfl ?_)
 refine zbx ?_
 have G2 := Lib.hid (zad G1.out g2)
 have M2 := Lib.hid (zab g2 M1.out)
 have O2 := Lib.hid (zah g2 O1.out)
 clear La Lb Lc Ld Le Lf z0 z1 z2 zl Y0 Y1 Y2 g2
 obtain ⟨z0, z1, z2, _, zl⟩ := zkj M2.out
 dsimp only at z0 z1 z2
 rw [zat] at z0 z1 z2
 have Y0 := zdg O2.out HM2.out.1
 have Yf := ziv O2.out HC.out m
 go_wp2_with fail
 go_ret
 exact ⟨ok, rfl, fun e => ⟨G2.out.setCell (p := ⟨g, m, none⟩) HG.out.1 _, _, zrb O2.out HC.out m HV.out, HPA.out e⟩, fun e => ⟨by rw [← HY.out, ← HZ.out]; exact HPN.out e, G2.out.setCell (p := ⟨g, m, none⟩) HG.out.1 _⟩⟩
theorem yka (x : Value) (p : Option Addr) (n cp : Nat) (w : World) (R : Nat → World → Prop) (B : World → Prop) (hn : n ≤ 1000)
  (H : ∀ m W, m < n → R (m + 1) W → Calls Tryz.prog 147 #[x, .int .i64 (m : Int)] W fun e w' => ∃ ok, e = .returned (.bool ok) ∧ (ok = true → R m w') ∧ (ok = false → B w'))
  (h : R n w) :
  Calls Tryz.prog 96 #[.slice p n cp, .func (.func 147) #[x] #[]] w fun e w' => ∃ v ok, e = .returned (.tuple #[v, .bool ok]) ∧ (ok = true → v = .slice p n cp ∧ R 0 w') ∧ (ok = false → v = .slice none 0 0 ∧ B w') := by
 have HH := Lib.hid H
 have HR := Lib.hid h
 have HN := Lib.hid hn
 clear H h hn
 go_enter Tryz.func96, Tryz.ntmps96
 go_wp2_with fail
 go_loopw [6, 9] (fun _ k wr => ∃ j : Nat, j ≤ n ∧ k = .int .i64 (j : Int) ∧ R (n - j) wr) (fun _ k _ => n - (intOf k).toNat)
 case atStart => exact ⟨0, Nat.zero_le _, rfl, HR.out⟩
 case round =>
  obtain ⟨j, hj, rfl, hr⟩ := hrel
  have KR := Lib.hid hr
  clear hr
  by_cases hlt : j < n
  ·
   have i0 : (0 : Int) ≤ (j : Int) := by omega
   have i1 : (j : Int) < (n : Int) := by omega
   have u1 : (j : Int) + 1 < 10000 := by have := HN.out; omega
   have u2 : (n : Int) < 10000 := by have := HN.out; omega
   obtain ⟨m, hm⟩ : ∃ m, m = n - 1 - j := ⟨_, rfl⟩
   have hmi : (n : Int) - 1 - (j : Int) = (m : Int) := by omega
   have HC := Lib.hid (HH.out m wr (by omega) (by rw [show m + 1 = n - j by omega]; exact KR.out))
   have HM : Hid (n - (j + 1) = m) := by show n - (j + 1) = m; omega
   have HL := Lib.hid hlt
   clear hm hlt
   go_wp2_with fail
   refine HC.out.mono ?_
   rintro e w1 ⟨ok, rfl, hy, hz⟩
   have HY := Lib.hid hy
   have HZ := Lib.hid hz
   clear hy hz
   cases ok
   ·
    go_wp2_with fail
    go_ret2
    exact ⟨_, _, rfl, (fun e => by cases e), (fun _ => ⟨rfl, HZ.out (by simp)⟩)⟩
   ·
    go_wp2_with fail
    go_roundw
    case rel => exact ⟨j + 1, HL.out, by go_num, by rw [HM.out]; exact HY.out (by simp)⟩
    case measure => simp [intOf]; have := HL.out; omega
  ·
   obtain rfl : j = n := by omega
   clear hlt
   go_wp2_with fail
   go_ret2
   exact ⟨_, _, rfl, (fun _ => ⟨rfl, by have := KR.out; rwa [Nat.sub_self] at this⟩), (fun e => by cases e)⟩
structure Sm where
 t : Tr
 l : SlV
def smL (x : Sm) : List Value := (tr x.t).toList ++ ([sv x.l])
def sm (x : Sm) : Array Value := (smL x).toArray
theorem yrm (x : Sm) : (sm x).toList = smL x := rfl
theorem yv0 (x : Sm) : (smL x).length = 2 := by simp [smL, zbf]
theorem zoy (x : Sm) : (sm x).size = 2 := by rw [← Array.length_toList, yrm, yv0]
theorem yv9 (x : Sm) : ∀ v ∈ smL x, v.oneCell' = true := by
 intro v hv
 unfold smL at hv
 simp only [List.mem_append, List.mem_singleton] at hv
 rcases hv with hv | rfl
 ·
  exact yhh _ v (by rw [zmf] at hv; exact hv)
 ·
  rfl
@[go_sem] theorem yy4 (x : Sm) : okA 2 (.agg (sm x)) = true := by
 show ((sm x).size == 2 && (sm x).all (·.oneCell')) = true
 rw [show (sm x).all (·.oneCell') = true from zf1 (yv9 x), zoy]; rfl
def zsm : Sm := ⟨ztr, ⟨none, 0, 0⟩⟩
theorem ygy (w : World) : (zeroValue 134).run Tryz.prog w = .ok (.agg (sm zsm)) w := by kernel_rfl
@[go_sem ↓] theorem yxm (ρ : Operand → Value) (dst : Option Tmp) (x : Operand) (ty : TypeId) (pos : String) (after : Array Edge) (guard : Option (Nat × Bool)) (w : World) :
  (execOp ρ { dst, op := .load 134 x, type := ty, pos, after, guard }).run Tryz.prog w = zje (ldA w (ρ x) 2) w (zbe Tryz.prog ρ { dst, op := .load 134 x, type := ty, pos, after, guard } w) :=
 zbp Tryz.isAgg134 Tryz.sizeOf134 ρ dst x ty pos after guard w
@[go_sem ↓] theorem ywy (ρ : Operand → Value) (dst : Option Tmp) (x y : Operand) (ty : TypeId) (pos : String) (after : Array Edge) (guard : Option (Nat × Bool)) (w : World) :
  (execOp ρ { dst, op := .store 134 x y, type := ty, pos, after, guard }).run Tryz.prog w = zjf (wrA w (ρ x) 2 && okA 2 (ρ y)) (stA w (ρ x) (ρ y)) (zbe Tryz.prog ρ { dst, op := .store 134 x y, type := ty, pos, after, guard } w) :=
 zbh Tryz.sizeOf134 ρ dst x y ty pos after guard w
@[go_sem ↓] theorem yxb (ρ : Operand → Value) (dst : Option Tmp) (ty : TypeId) (pos : String) (after : Array Edge) (guard : Option (Nat × Bool)) (w : World) :
  (execOp ρ { dst, op := .alloc 134, type := ty, pos, after, guard }).run Tryz.prog w = .ok (.value (.pointer (some ⟨w.heap.size, 0, none⟩))) (w.alloc (.cells (sm zsm) 134)) := by
 unfold execOp
 simp only [Instr.alloc, Sem.run_bind, ygy, Result.andThen_ok]
 rfl
def places_sm : List (Nat × Nat) := [(0, 1), (1, 1)]
theorem yce : ∀ w : World, ((Tryz.prog.fieldsOf 134).mapM (m := Sem) fun f => do pure (f.offset, ← Go.sizeOf f.type)).run Tryz.prog w = .ok places_sm.toArray w := fun _ => by kernel_rfl
theorem yjg : Tryz.prog.underlying 134 = some (.struct (Tryz.prog.fieldsOf 134)) := by kernel_rfl
@[go_sem ↓] theorem yw7 (ρ : Operand → Value) (dst : Option Tmp) (p : Nat × Operand) (ps : List (Nat × Operand)) (ty : TypeId) (pos : String) (after : Array Edge) (guard : Option (Nat × Bool)) (w : World) :
  (execOp ρ { dst, op := .build 134 (p :: ps).toArray, type := ty, pos, after, guard }).run Tryz.prog w = zhu ((zi1 places_sm (sm zsm) ((p.1, ρ p.2) :: ps.map fun p => (p.1, ρ p.2))).map .agg) w (zbe Tryz.prog ρ { dst, op := .build 134 (p :: ps).toArray, type := ty, pos, after, guard } w) :=
 zcb ygy yjg yce ρ dst (p :: ps).toArray ty pos after guard w
attribute [go_sem] places_sm zoy
theorem zw1 (x : Sm) : smL x = ([]) ++ ((tr x.t).toList ++ ([sv x.l])) ∧ ([] : List Value).length = 0 := by
 constructor
 ·
  unfold smL; simp
 ·
  rfl
theorem ymg (x : Sm) (y : Tr) : zax (sm x) 0 (tr y) = sm { x with t := y } := by
 rw [za0 (c := sm x) (zw1 x).1 (zw1 x).2 (by simp [zbf])]
 simp [sm, smL]
theorem zyk (x : Sm) : smL x = ((tr x.t).toList) ++ ([sv x.l] ++ ([])) ∧ ((tr x.t).toList : List Value).length = 1 := by
 constructor
 ·
  unfold smL; simp
 ·
  simp [zbf]
theorem yqy {w : World} {b off : Nat} {x : Sm} (h : w.rangeAt b off (smL x)) : w.cell? ⟨b, off + 1, none⟩ = some (sv x.l) := zbj h (zyk x).1 (zyk x).2
theorem yk0 {w : World} {g : Nat} {t : TypeId} {fr : Nat × Nat} {x : Sm} (h : w.heap[g]? = some (.cells (sm x) t fr)) : w.cell? ⟨g, 1, none⟩ = some (sv x.l) := by have := yqy (x := x) (zai h); rwa [Nat.zero_add] at this
theorem z7s (x : Sm) (y : SlV) : zax (sm x) 1 #[sv y] = sm { x with l := y } := by
 rw [za0 (c := sm x) (r := #[sv y]) (zyk x).1 (zyk x).2 rfl]
 simp [sm, smL]
theorem ypd {w : World} {b off : Nat} {x : Sm} (h : w.rangeAt b off (smL x)) : w.rangeAt b (off + 0) (trL x.t) := by
 rw [← zmf]; exact zdk h (zw1 x).1 (zw1 x).2
theorem z2l {w : World} {b off : Nat} {x : Sm} (h : w.rangeAt b off (smL x)) : w.cell? ⟨b, off + 0, none⟩ = some (sv x.t.n) := z5b (ypd h)
theorem yb1 {w : World} {g : Nat} {t : TypeId} {fr : Nat × Nat} {x : Sm} (h : w.heap[g]? = some (.cells (sm x) t fr)) : w.cell? ⟨g, 0, none⟩ = some (sv x.t.n) := by have := z2l (x := x) (zai h); rwa [Nat.zero_add] at this
theorem z9k (x : Sm) : (sm x)[0]? = some (sv x.t.n) := by have := z2l (x := x) (zai (heap_alloc_last (default : World) (.cells (sm x) 0))); rw [cell_of_row _ _ _ _ _ _ (heap_alloc_last _ _), Nat.zero_add] at this; exact this
@[go_sem] theorem yu7 (x : Sm) (h : 0 < (sm x).size) : (sm x)[0]'h = sv x.t.n := by have := z9k x; rw [Array.getElem?_eq_getElem h] at this; exact Option.some.inj this
attribute [go_sem] ymg z7s
@[go_sem] theorem yu0 (x : Sm) (p : Option Addr) (k c : Nat) : zax (sm x) 1 #[.slice p k c] = sm { x with l := ⟨p, k, c⟩ } := z7s x ⟨p, k, c⟩
end Go.Proofs.YtmihlihlpdkdcaaGreat
