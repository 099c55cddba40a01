import Derived.Test.YtkalofboioffiaaGreatT28
import Derived.WalkSpells
import Derived.KernelRfl
import Derived.Lib.Mul64
import Derived.Test.YtkalofboioffiaaGreatT27
namespace Go.Proofs.YtkalofboioffiaaGreat
open Go.RowKit
set_option maxRecDepth 200000
set_option maxHeartbeats 64000000
section
open Go.Shelf
attribute [local go_sem] Oper.semAt_some
def sumV (f : Nat → Nat) (n : Nat) (ks : List Nat) : Nat := ((ks.filter fun v => decide (v < n)).map f).sum
theorem ycv {f : Nat → Nat} {n : Nat} (ks : List Nat) {v : Nat} (h : v < n) : sumV f n (ks ++ [v]) = sumV f n ks + f v := by unfold sumV; rw [List.filter_append]; simp [h]
theorem zxv {f : Nat → Nat} {n : Nat} (ks : List Nat) {v : Nat} (h : n ≤ v) : sumV f n (ks ++ [v]) = sumV f n ks := by
 unfold sumV; rw [List.filter_append]; simp [show ¬ v < n by omega]
theorem yha {f : Nat → Nat} {n B : Nat} (h : ∀ v, v < n → f v ≤ B) (ks : List Nat) : sumV f n ks ≤ ks.length * B := by
 induction ks with
 | nil => simp [sumV]
 | cons k ks ih =>
  have e : sumV f n (k :: ks) ≤ B + sumV f n ks := by
   unfold sumV
   by_cases hk : k < n
   ·
    rw [List.filter_cons_of_pos (by simp [hk]), List.map_cons, List.sum_cons]; have := h k hk; omega
   ·
    rw [List.filter_cons_of_neg (by simp [hk])]; omega
  rw [List.length_cons, Nat.add_mul, Nat.one_mul]
  omega
theorem yhb {f : Nat → Nat} {n : Nat} (h : ∀ v, v < n → f v ≤ 1099511627776) {ks : List Nat} (hk : ks.length ≤ 64) : sumV f n ks ≤ 70368744177664 := by
 have h1 := yha h ks
 omega
theorem z8b {f : Nat → Nat} {n : Nat} {L ys : List Nat} {x : Nat} (hs : L.Pairwise (· < ·)) (hp : ys ++ [x] <+: L) (hx : n ≤ x) : sumV f n L = sumV f n ys := by
 obtain ⟨t, rfl⟩ := hp
 have ht : t.filter (fun v => decide (v < n)) = [] := by
  rw [List.filter_eq_nil_iff]
  intro y hy
  rw [List.append_assoc] at hs
  have h2 := (List.pairwise_append.1 hs).2.1
  rw [List.singleton_append, List.pairwise_cons] at h2
  have := h2.1 y hy
  simp; omega
 have e : sumV f n (ys ++ [x] ++ t) = sumV f n (ys ++ [x]) := by unfold sumV; rw [List.filter_append, ht, List.append_nil]
 rw [e, zxv _ hx]
theorem z2z (p : Option Addr) (n cp : Nat) (l : List UInt64) (m : Int) (w : World) (h : SlE Enum w (.slice p n cp) l) (hl : l.length = n) (hm : mayB l = false) :
  Calls Tryz.prog 201 #[.slice p n cp, .int .u64 m] w fun e w' => e = .returned (.int .u64 0) ∧ Below w.heap.size w w' := by
 have HMy : Hid (∀ W, Below w.heap.size w W → Calls Tryz.prog 56 #[.slice p n cp] W fun e w' => e = .returned (.bool false) ∧ Below W.heap.size W w') := fun W g => by
  have := zkm p n cp l W (zad g h) hl
  rwa [hm] at this
 obtain ⟨W0, hW0⟩ : ∃ W0, W0 = w.alloc (.cells #[.slice p n cp] 25) := ⟨_, rfl⟩
 have HB : Hid (Below w.heap.size w W0) := by rw [hW0]; exact below1
 have HW := Lib.hid hW0
 clear hW0 h hl hm
 go_enter Tryz.func201, Tryz.ntmps201
 go_wp2_with fail
 rw [← HW.out]
 refine (HMy.out W0 HB.out).mono ?_
 rintro e w1 ⟨rfl, g1⟩
 have G1 := Lib.hid (zab HB.out g1)
 clear g1
 go_wp2_with fail
 go_ret
 exact ⟨rfl, G1.out⟩
theorem zxs (p : Option Addr) (n cp : Nat) (l : List UInt64) (mask : UInt64) (w : World) (h : SlE Enum w (.slice p n cp) l) (hl : l.length = n) (hmay : mayB l = true) :
  Calls Tryz.prog 201 #[.slice p n cp, .int .u64 (mask.toNat : Int)] w fun e w' => e = .returned (.int .u64 (ofS l mask : Int)) ∧ Below w.heap.size w w' := by
 have HMy : Hid (∀ W, Below w.heap.size w W → Calls Tryz.prog 56 #[.slice p n cp] W fun e w' => e = .returned (.bool true) ∧ Below W.heap.size W w') := fun W g => by
  have := zkm p n cp l W (zad g h) hl
  rwa [hmay] at this
 have HS := Lib.hid h
 have HL := Lib.hid hl
 obtain ⟨z, hz⟩ : ∃ z, z = ofS l mask := ⟨_, rfl⟩
 obtain ⟨_, h2, h3⟩ := zb7.1 hmay
 have HX1 : Hid (z = sumV (fn l) n (whoT mask)) := by
  show z = _
  rw [hz, zwt hmay, hl]
  exact (yj7 (fn l) mask (by omega)).symm
 have HX2 : Hid (∀ v, v < n → fn l v ≤ 1099511627776) := fun v hv => h3 v (by omega)
 have HX3 : Hid (n ≤ 8) := by show n ≤ 8; omega
 rw [← hz]
 obtain ⟨W0, hW0⟩ : ∃ W0, W0 = w.alloc (.cells #[.slice p n cp] 25) := ⟨_, rfl⟩
 have HB : Hid (Below w.heap.size w W0) := by rw [hW0]; exact below1
 have M0 : Hid (W0.heap[w.heap.size]? = some (.cells #[.slice p n cp] 25 (0, 0))) := by rw [hW0]; exact heap_alloc_last w _
 have HW := Lib.hid hW0
 have HE : Hid (∀ W, Calls Tryz.prog 209 #[.int .u64 (mask.toNat : Int)] W fun e w' => e = .returned (.func (.func 213) #[] #[.pointer (some ⟨W.heap.size, 0, none⟩)]) ∧ w' = W.alloc (.cells #[.int .u64 (mask.toNat : Int)] 27)) := fun W => z76 _ W
 have HD := Lib.hid (fun (w2 : World) (s0 D bt : Nat) (hs0 : s0 ≤ w2.heap.size) (hDb : D < bt) t0 => z0p 2 (by omega) mask s0 D bt w2 hs0 hDb t0)
 obtain ⟨m, hm⟩ : ∃ m, m = (mask.toNat : Int) := ⟨_, rfl⟩
 rw [← hm] at HE HD
 rw [← hm]
 clear hW0 h hl hz hm hmay h2 h3
 refine callsIn_wide.1 (callsIn_of_wp_marks (n := 3) Tryz.func201 rfl trivial (wpIn_wide.2 ?_))
 simp only [Tryz.ntmps201, List.size_toArray, List.length_cons, List.length_nil, Nat.reduceAdd, Nat.reduceSub, Array.replicate_succ, Array.replicate_zero, List.push_toArray, List.append_toArray, List.nil_append, List.cons_append]
 go_wp2_with fail
 rw [← HW.out]
 refine (HMy.out W0 HB.out).mono ?_
 rintro e w1 ⟨rfl, g1⟩
 have G1 := Lib.hid (zab HB.out g1)
 have M1 := Lib.hid (zac g1 M0.out)
 clear g1
 obtain ⟨W1, hW1⟩ : ∃ W1, W1 = w1.alloc (.cells #[.int .u64 0] 27) := ⟨_, rfl⟩
 have HB1 : Hid (Below w1.heap.size w1 W1) := by rw [hW1]; exact below1
 have M2 : Hid (W1.heap[w1.heap.size]? = some (.cells #[.int .u64 0] 27 (0, 0))) := by rw [hW1]; exact heap_alloc_last w1 _
 have HZ1 : Hid (W1.heap.size = w1.heap.size + 1) := by show _ = _; rw [hW1]; simp
 have HW1 := Lib.hid hW1
 clear hW1
 go_wp2_with fail
 rw [← HW1.out]
 refine (HE.out W1).mono ?_
 rintro e w2 ⟨rfl, hw2⟩
 have hB2 : Below W1.heap.size W1 w2 := by rw [hw2]; exact below1
 have t0 : w2.heap[W1.heap.size]? = some (.cells #[.int .u64 m] 27 (0, 0)) := by rw [hw2]; exact heap_alloc_last W1 _
 have hz2 : w2.heap.size = W1.heap.size + 1 := by rw [hw2]; simp
 have HBw : Hid (Below w.heap.size w w2) := zab G1.out (zab HB1.out hB2)
 have HSZ : Hid (w.heap.size < w1.heap.size ∧ w1.heap.size < W1.heap.size ∧ W1.heap.size < w2.heap.size) := by
  have h1 := (Array.getElem?_eq_some_iff.1 M1.out).1
  show _ ∧ _
  have := HZ1.out
  omega
 have HDn := Lib.hid (HD.out w2 w.heap.size w1.heap.size W1.heap.size (by have := HSZ.out; omega) (by have := HSZ.out; omega) t0)
 have HKb : Hid (w2.heap[w.heap.size]? = some (.cells #[.slice p n cp] 25 (0, 0))) := zac (zab HB1.out hB2) M1.out
 have HKs : Hid (w2.heap[w1.heap.size]? = some (.cells #[.int .u64 0] 27 (0, 0))) := zac hB2 M2.out
 clear hw2 hB2 t0 hz2 HD HE
 go_wp2_with fail
 refine (wpIn_wide (n := 3)).1 ?_
 have HN : Hid ((whoT mask).length ≤ 64) := yda mask
 refine wpIn_rangeFunc_ownF (w0 := w2) rfl (by omega) (gf := 213) (lb := #[.pointer (some ⟨W1.heap.size, 0, none⟩)]) rfl trivial (za7 Tryz.func213 (by kernel_rfl) (by kernel_rfl))
  HDn.out zyd (zyc (by have := HSZ.out; omega) (Nat.le_refl _)) (Below.refl _ _) (fun _ => rfl)
  (fun pre W => W.heap[w1.heap.size]? = some (.cells #[.int .u64 (sumV (fn l) n (pre.map Subtype.val) : Int)] 27 (0, 0)) ∧ But w.heap.size w2.heap.size w1.heap.size w2 W)
  (fun c pre W => W.heap[w1.heap.size]? = some (.cells #[.int .u64 (sumV (fn l) n (pre.map Subtype.val) : Int)] 27 (0, 0)) ∧ But w.heap.size w2.heap.size w1.heap.size w2 W ∧ (c = .exit 0 ∧ ∃ ys x, pre.map Subtype.val = ys ++ [x] ∧ n ≤ x))
  (OwnFrom.and (zvp _ (by have := HSZ.out; omega)) (But.own (Nat.le_refl _) (Nat.le_refl _) (by have := HSZ.out; omega)))
  (fun c => OwnFrom.and (zvp _ (by have := HSZ.out; omega)) (OwnFrom.and (But.own (Nat.le_refl _) (Nat.le_refl _) (by have := HSZ.out; omega)) (fun _ _ _ _ h _ _ => h)))
  ⟨HKs.out, But.refl _ _ _ _⟩ ?a1 ?assign ?body ?done ?stop
 case assign =>
  intro lo x W K hK
  gi_wp2
  exact hK
 case body =>
  rintro lo pre x W ⟨hp, hB⟩ hlen
  obtain ⟨k, hk⟩ := x
  have HP := Lib.hid hp
  have HBW := Lib.hid hB
  have HBB : Hid (W.heap[w.heap.size]? = some (.cells #[.slice p n cp] 25 (0, 0))) := hB.blk (by have := HSZ.out; omega) (by have := HSZ.out; omega) HKb.out
  have HSL : Hid (SlE Enum W (.slice p n cp) l) := zad (HBw.out.trans hB.below) HS.out
  obtain ⟨c1, c2⟩ := zam hp
  have b1 := (zam HBB.out).1
  by_cases hkn : k < n
  ·
   have a0 : decide ((n : Int) ≤ (k : Int)) = false := decide_eq_false (by omega)
   have a0' : decide (n ≤ k) = false := decide_eq_false (by omega)
   have i0 : (0 : Int) ≤ (k : Int) := by omega
   have i1 : (k : Int) < (n : Int) := by omega
   have HE2 : Hid (sumV (fn l) n ((pre ++ [(⟨k, hk⟩ : { x : Nat // x ∈ whoT mask })]).map Subtype.val) = sumV (fn l) n (pre.map Subtype.val) + fn l k) := by
    show _ = _
    rw [List.map_append, List.map_cons, List.map_nil, ycv _ hkn]
   have hs1 : sumV (fn l) n (pre.map Subtype.val) ≤ 70368744177664 := yhb HX2.out (by rw [List.length_map]; have := HN.out; omega)
   have hs2 := HX2.out k hkn
   obtain ⟨b2, o2, rfl, q2, x2⟩ := zcm HSL.out (by have := HL.out; omega)
   have y2 := zbt x2 (i := k) (by have := HL.out; omega)
   obtain ⟨s, hs⟩ : ∃ s, s = sumV (fn l) n (pre.map Subtype.val) := ⟨_, rfl⟩
   obtain ⟨y, hy⟩ : ∃ y, y = fn l k := ⟨_, rfl⟩
   rw [← hs] at HP HE2 hs1 c1
   rw [← hy] at y2 hs2 HE2
   have u2 : (s : Int) + (y : Int) < 18446744073709551616 := by omega
   have HU : Hid (IntKind.u64.wrap ((s : Int) + (y : Int)) = ((s + y : Nat) : Int)) := by show _ = _; rw [IntKind.wrap_u64]; omega
   clear hp hB hlen hkn x2 q2 hs hy hs1 hs2 u2
   have hmix : Tryz.prog.follows .mixedOrders = true := by kernel_rfl
   gi_wp2
   gi_region_with_o fail
   all_goals (
    gi_wp2
    rw [HU.out]
    refine ⟨(KeepsOthers.drew W).trans (KeepsOthers.setCell _ _ _), (But.of_below (zah (Below.refl _ _) 1) (by have := HSZ.out; omega)).setCell (by have := HSZ.out; omega) _, ?_, (HBW.out.then (zah (Below.refl _ _) 1) (by have := HSZ.out; omega) HBW.out.below.size).setCell (by have := HSZ.out; omega) _⟩
    show _ = some (Obj.cells #[.int .u64 (sumV (fn l) n ((pre ++ [(⟨k, hk⟩ : { x : Nat // x ∈ whoT mask })]).map Subtype.val) : Int)] 27 (0, 0))
    rw [HE2.out]
    exact zvq (W := W.drew) HP.out _)
  ·
   have a0 : decide ((n : Int) ≤ (k : Int)) = true := decide_eq_true (by omega)
   have a0' : decide (n ≤ k) = true := decide_eq_true (by omega)
   have HE2 : Hid (sumV (fn l) n ((pre ++ [(⟨k, hk⟩ : { x : Nat // x ∈ whoT mask })]).map Subtype.val) = sumV (fn l) n (pre.map Subtype.val)) := by
    show _ = _
    rw [List.map_append, List.map_cons, List.map_nil, zxv _ (show n ≤ k by omega)]
   have HNK : Hid (n ≤ k) := by show n ≤ k; omega
   clear hp hB hlen hkn
   gi_wp2
   refine ⟨KeepsOthers.refl _, ?_, HBW.out, rfl, pre.map Subtype.val, k, ?_, HNK.out⟩
   ·
    show _ = some (Obj.cells #[.int .u64 (sumV (fn l) n ((pre ++ [(⟨k, hk⟩ : { x : Nat // x ∈ whoT mask })]).map Subtype.val) : Int)] 27 (0, 0))
    rw [HE2.out]
    exact HP.out
   ·
    show ((pre ++ [(⟨k, hk⟩ : { x : Nat // x ∈ whoT mask })]).map Subtype.val) = _
    rw [List.map_append, List.map_cons, List.map_nil]
 case done =>
  rintro D ys W hD hys ⟨hp, hB⟩ hK
  have hX : Hid (sumV (fn l) n (ys.map Subtype.val) = z) := by show _ = z; rw [hys, HX1.out]
  rw [hX.out] at hp
  have c1 := (zam hp).1
  have HBf := Lib.hid (HBw.out.trans hB.below)
  have HKD := Lib.hid hK
  have hDD : Hid (w.heap.size ≤ D) := by show _ ≤ _; have := HSZ.out; omega
  clear hp hB hK hys hD
  go_wp2_with fail
  exact zf6 (v := .int .u64 z) HKD.out ⟨by simp [results, Tryz.results201, go_sem], rfl, zcu HKD.out HBf.out hDD.out⟩
 case stop =>
  rintro D c pre W hD hpre ⟨hp, hB, rfl, ys, x, hys, hx⟩ hK
  have hX : Hid (sumV (fn l) n (pre.map Subtype.val) = z) := by
   show _ = z
   rw [hys] at hpre ⊢
   rw [zxv _ hx, HX1.out]
   exact (z8b (z3h mask) hpre hx).symm
  rw [hX.out] at hp
  have c1 := (zam hp).1
  have HBf := Lib.hid (HBw.out.trans hB.below)
  have HKD := Lib.hid hK
  have hDD : Hid (w.heap.size ≤ D) := by show _ ≤ _; have := HSZ.out; omega
  clear hp hB hK hys hD hpre hx
  gi_wp2
  go_wp2_with fail
  exact zf6 (v := .int .u64 z) HKD.out ⟨by simp [results, Tryz.results201, go_sem], rfl, zcu HKD.out HBf.out hDD.out⟩
theorem z78 : ylm := fun v l m w h => by
 have k := h
 obtain ⟨p, cp, rfl, _⟩ := zal h
 cases e : mayB l
 ·
  have := z2z p _ cp l (m.toNat : Int) w k rfl e
  rwa [z6t e]
 ·
  exact zxs p _ cp l m w k rfl e
theorem z20 : z89 := fun v l w h => by
 have HC := Lib.hid (z78 v l allM w h)
 rw [show ((allM.toNat : Nat) : Int) = 18446744073709551615 from rfl] at HC
 obtain ⟨t, ht⟩ : ∃ t, t = totS l := ⟨_, rfl⟩
 rw [show ofS l allM = t from ht.symm] at HC
 rw [← ht]
 clear h ht
 go_enter Tryz.func202, Tryz.ntmps202
 go_wp2_with fail
 refine HC.out.mono ?_
 rintro e w1 ⟨rfl, g⟩
 go_wp2_with fail
 go_ret
 exact ⟨rfl, g⟩
end
def yeg : Prop := ∀ (v : Value) (l : List UInt64) (m : UInt64) (w : World), SlE Enum w v l → Calls Tryz.prog 179 #[v, .int .u64 (m.toNat : Int)] w fun e w' => e = .returned (.bool (zt4 l m)) ∧ Below w.heap.size w w'
@[go_sem] theorem ymo (a b c d : Int) (w : World) : (Op.equalIn 10000 239 (.agg #[.int .u64 a, .int .u64 b]) (.agg #[.int .u64 c, .int .u64 d])).run Tryz.prog w = .ok (a == c && b == d) w := by
 have u3 := Tryz.underlying27
 have a3 := Tryz.isAgg27
 have z3 := Tryz.sizeOf27
 rw [show (10000 : Nat) = 9999 + 1 from rfl, Op.equalIn]
 simp only [Sem.run_bind, run_underlying Tryz.underlying239, Result.andThen_ok]
 simp only [Std.Legacy.Range.forIn_eq_forIn_range', Std.Legacy.Range.size, Nat.sub_zero, Nat.add_sub_cancel, Nat.div_one, List.range'_succ, List.range'_zero, List.forIn_cons, List.forIn_nil]
 go_simp
 by_cases h1 : a = c <;> by_cases h2 : b = d <;> simp [h1, h2]
def Word (x : Int) : Prop := 0 ≤ x ∧ x < 18446744073709551616
def ybi (a b : Int) : Bool := decide (2 * b ≤ 3 * a)
theorem yga (a : Nat) (ha : a < 18446744073709551616) : bits .and .u64 (a : Int) 4294967295 = ((a % 4294967296 : Nat) : Int) := by
 have h := bits_and_u64_nat a 4294967295 ha (by omega)
 have e : a &&& 4294967295 = a % 4294967296 := Nat.and_two_pow_sub_one_eq_mod a 32
 rw [e] at h
 exact h
theorem divN (a : Nat) : (a : Int) / 4294967296 = ((a / 4294967296 : Nat) : Int) := by omega
theorem mulZ (a b : Nat) : (a : Int) * (b : Int) = ((a * b : Nat) : Int) := (Int.natCast_mul a b).symm
theorem addZ (a b : Nat) : (a : Int) + (b : Int) = ((a + b : Nat) : Int) := (Int.natCast_add a b).symm
theorem zvf (a : Nat) (ha : a < 18446744073709551616) : IntKind.u64.wrap (a : Int) = (a : Int) := by rw [IntKind.wrap_u64]; omega
theorem ymm (a : Nat) : IntKind.u64.wrap (a : Int) = ((a % 18446744073709551616 : Nat) : Int) := by rw [IntKind.wrap_u64]; omega
theorem z6f (x y : Nat) (hx : x < 18446744073709551616) (hy : y < 18446744073709551616) (w : World) :
  Calls Tryz.prog 212 #[.int .u64 x, .int .u64 y] w fun e w' => e = .returned (.tuple #[.int .u64 ((x * y / 18446744073709551616 : Nat) : Int), .int .u64 ((x * y % 18446744073709551616 : Nat) : Int)]) ∧ w = w' := by
 obtain ⟨bd, bt, bw, hhi⟩ := Lib.mul64_hi x y hx hy
 have ba := Lib.half_mul_le (a := x / 4294967296) (b := y / 4294967296) (by omega) (by omega)
 have bb := Lib.half_mul_le (a := x / 4294967296) (b := y % 4294967296) (by omega) (by omega)
 have bc := Lib.half_mul_le (a := x % 4294967296) (b := y / 4294967296) (by omega) (by omega)
 have ba' : x / 4294967296 * (y / 4294967296) < 18446744073709551616 := by omega
 have bb' : x / 4294967296 * (y % 4294967296) < 18446744073709551616 := by omega
 have bc' : x % 4294967296 * (y / 4294967296) < 18446744073709551616 := by omega
 have bh1 : x / 4294967296 * (y / 4294967296) + (x / 4294967296 * (y % 4294967296) + x % 4294967296 * (y % 4294967296) / 4294967296) / 4294967296 < 18446744073709551616 := by omega
 have bh : x / 4294967296 * (y / 4294967296) + (x / 4294967296 * (y % 4294967296) + x % 4294967296 * (y % 4294967296) / 4294967296) / 4294967296 + ((x / 4294967296 * (y % 4294967296) + x % 4294967296 * (y % 4294967296) / 4294967296) % 4294967296 + x % 4294967296 * (y / 4294967296)) / 4294967296 < 18446744073709551616 := by omega
 go_enter Tryz.func212, Tryz.ntmps212
 go_wp2
 simp only [yga x hx, yga y hy, divN, mulZ, addZ, zvf _ bd, zvf _ bb', zvf _ bt, yga _ bt, zvf _ bc', zvf _ bw, zvf _ ba', zvf _ bh1, zvf _ bh, ymm (x * y)]
 rw [hhi]
 go_ret2
 exact ⟨rfl, rfl⟩
theorem yl9 (x y : Int) (hx : Word x) (hy : Word y) (w : World) :
  Calls Tryz.prog 212 #[.int .u64 x, .int .u64 y] w fun e w' => e = .returned (.tuple #[.int .u64 (x * y / 18446744073709551616), .int .u64 (x * y % 18446744073709551616)]) ∧ w = w' := by
 obtain ⟨hx0, hx1⟩ := hx
 obtain ⟨hy0, hy1⟩ := hy
 obtain ⟨X, rfl⟩ := Int.eq_ofNat_of_zero_le hx0
 obtain ⟨Y, rfl⟩ := Int.eq_ofNat_of_zero_le hy0
 have h := z6f X Y (by omega) (by omega) w
 rw [Int.natCast_ediv, Int.natCast_emod, Int.natCast_mul] at h
 exact h
theorem zmc {a w : World} (h : Below a.heap.size a w) (o : Obj) : Below a.heap.size a (w.alloc o) := h.alloc h.size _
theorem zn4 (a b : Int) (ha : Word a) (hb : Word b) (w : World) :
  Calls Tryz.prog 208 #[.int .u64 a, .int .u64 b] w fun e w' => e = .returned (.agg #[.int .u64 (a * b / 18446744073709551616), .int .u64 (a * b % 18446744073709551616)]) ∧ Below w.heap.size w w' := by
 go_enter Tryz.func208, Tryz.ntmps208
 go_wp2_with (go_at_call 212; refine (yl9 _ _ ha hb _).mono ?_; rintro e w' ⟨rfl, rfl⟩)
 exact bodyPost_ret (v := .agg #[.int .u64 (a * b / 18446744073709551616), .int .u64 (a * b % 18446744073709551616)]) (by simp [results, Tryz.results208, go_sem]) rfl ⟨rfl, below1⟩
theorem zwp (ah al : Int) (w : World) :
  Calls Tryz.prog 207 #[.agg #[.int .u64 ah, .int .u64 al], .agg #[.int .u64 ah, .int .u64 al]] w fun e w' => e = .returned (.bool true) ∧ Below w.heap.size w w' := by
 go_enter Tryz.func207, Tryz.ntmps207
 go_wp2
 go_ret
 exact ⟨rfl, zmc below1 _⟩
theorem zwm (ah al bh bl : Int) (h : bh < ah) (w : World) :
  Calls Tryz.prog 207 #[.agg #[.int .u64 ah, .int .u64 al], .agg #[.int .u64 bh, .int .u64 bl]] w fun e w' => e = .returned (.bool true) ∧ Below w.heap.size w w' := by
 have h1 : (ah == bh) = false := beq_eq_false_iff_ne.2 (by omega)
 go_enter Tryz.func207, Tryz.ntmps207
 go_wp2
 go_ret
 exact ⟨rfl, zmc below1 _⟩
theorem z1o (ah al bh bl : Int) (h : ah < bh) (w : World) :
  Calls Tryz.prog 207 #[.agg #[.int .u64 ah, .int .u64 al], .agg #[.int .u64 bh, .int .u64 bl]] w fun e w' => e = .returned (.bool false) ∧ Below w.heap.size w w' := by
 have h1 : (ah == bh) = false := beq_eq_false_iff_ne.2 (by omega)
 have h2 : ¬ bh < ah := by omega
 go_enter Tryz.func207, Tryz.ntmps207
 go_wp2
 go_ret
 exact ⟨rfl, zmc below1 _⟩
theorem zwo (ah al bl : Int) (h : bl < al) (w : World) :
  Calls Tryz.prog 207 #[.agg #[.int .u64 ah, .int .u64 al], .agg #[.int .u64 ah, .int .u64 bl]] w fun e w' => e = .returned (.bool true) ∧ Below w.heap.size w w' := by
 have h1 : (al == bl) = false := beq_eq_false_iff_ne.2 (by omega)
 go_enter Tryz.func207, Tryz.ntmps207
 go_wp2
 go_ret
 exact ⟨rfl, zmc below1 _⟩
theorem zwn (ah al bl : Int) (h : al < bl) (w : World) :
  Calls Tryz.prog 207 #[.agg #[.int .u64 ah, .int .u64 al], .agg #[.int .u64 ah, .int .u64 bl]] w fun e w' => e = .returned (.bool false) ∧ Below w.heap.size w w' := by
 have h1 : (al == bl) = false := beq_eq_false_iff_ne.2 (by omega)
 have h2 : ¬ bl < al := by omega
 go_enter Tryz.func207, Tryz.ntmps207
 go_wp2
 go_ret
 exact ⟨rfl, zmc below1 _⟩
def zrq (ah al bh bl : Int) : Bool := decide (bh < ah ∨ bh = ah ∧ bl ≤ al)
theorem z1n (ah al bh bl : Int) (w : World) :
  Calls Tryz.prog 207 #[.agg #[.int .u64 ah, .int .u64 al], .agg #[.int .u64 bh, .int .u64 bl]] w fun e w' => e = .returned (.bool (zrq ah al bh bl)) ∧ Below w.heap.size w w' := by
 unfold zrq
 by_cases h1 : bh < ah
 ·
  rw [decide_eq_true (p := bh < ah ∨ bh = ah ∧ bl ≤ al) (by omega)]
  exact zwm _ _ _ _ h1 w
 by_cases h2 : ah < bh
 ·
  rw [decide_eq_false (p := bh < ah ∨ bh = ah ∧ bl ≤ al) (by omega)]
  exact z1o _ _ _ _ h2 w
 obtain rfl : ah = bh := by omega
 by_cases h3 : bl < al
 ·
  rw [decide_eq_true (p := ah < ah ∨ ah = ah ∧ bl ≤ al) (by omega)]
  exact zwo _ _ _ h3 w
 by_cases h4 : al < bl
 ·
  rw [decide_eq_false (p := ah < ah ∨ ah = ah ∧ bl ≤ al) (by omega)]
  exact zwn _ _ _ h4 w
 obtain rfl : al = bl := by omega
 rw [decide_eq_true (p := ah < ah ∨ ah = ah ∧ al ≤ al) (by omega)]
 exact zwp _ _ w
theorem zl6 (n : Nat) (h : n < 18446744073709551616) : Word (n : Int) := ⟨by omega, by omega⟩
theorem zt8 (x y : Int) : zrq (x / 18446744073709551616) (x % 18446744073709551616) (y / 18446744073709551616) (y % 18446744073709551616) = decide (y ≤ x) := by
 unfold zrq
 by_cases h : y ≤ x
 ·
  rw [decide_eq_true h]; exact decide_eq_true (by omega)
 ·
  rw [decide_eq_false h]; exact decide_eq_false (by omega)
theorem ybj (a b : Int) (ha : Word a) (hb : Word b) (w : World) :
  Calls Tryz.prog 200 #[.int .u64 a, .int .u64 b] w fun e w' => e = .returned (.bool (ybi a b)) ∧ Below w.heap.size w w' := by
 have c3 := fun w => zn4 3 a (zl6 3 (by decide)) ha w
 have c2 := fun w => zn4 2 b (zl6 2 (by decide)) hb w
 have hn := zt8 (3 * a) (2 * b)
 rw [show ybi a b = decide (2 * b ≤ 3 * a) from rfl, ← hn]
 clear hn ha hb
 generalize 3 * a / 18446744073709551616 = p at *
 generalize 3 * a % 18446744073709551616 = q at *
 generalize 2 * b / 18446744073709551616 = r at *
 generalize 2 * b % 18446744073709551616 = s at *
 go_enter Tryz.func200, Tryz.ntmps200
 go_wp2_with fail
 refine (c3 _).mono ?_
 rintro e w1 ⟨rfl, h1⟩
 go_wp2_with fail
 refine (c2 _).mono ?_
 rintro e w2 ⟨rfl, h2⟩
 go_wp2_with fail
 refine (z1n _ _ _ _ _).mono ?_
 rintro e w3 ⟨rfl, h3⟩
 go_wp2_with fail
 go_ret
 exact ⟨rfl, zab (zab h1 h2) h3⟩
theorem ygh (a b : Nat) (ha : a < 18446744073709551616) (hb : b < 18446744073709551616) (w : World) :
  Calls Tryz.prog 200 #[.int .u64 (a : Int), .int .u64 (b : Int)] w fun e w' => e = .returned (.bool (zlf a b)) ∧ Below w.heap.size w w' := by
 have := ybj a b (zl6 a ha) (zl6 b hb) w
 rwa [show ybi a b = zlf a b by unfold ybi zlf; rw [Bool.eq_iff_iff, decide_eq_true_iff, decide_eq_true_iff]; omega] at this
theorem z77 : yeg := fun v l mask w h => by
 have HM := Lib.hid (zl0 v l w h)
 have HO := Lib.hid (fun W (g : Below w.heap.size w W) => z78 v l mask W (zad g h))
 have HT := Lib.hid (fun W (g : Below w.heap.size w W) => z20 v l W (zad g h))
 have HX := Lib.hid (fun W => ygh (ofS l mask) (totS l) (by have : ofS l mask ≤ 8796093022208 := z6s; omega) (by have : totS l ≤ 8796093022208 := z6s; omega) W)
 obtain ⟨m, hm⟩ : ∃ m, m = (mask.toNat : Int) := ⟨_, rfl⟩
 rw [← hm] at HO
 rw [← hm]
 have he : zt4 l mask = (mayB l && zlf (ofS l mask) (totS l)) := rfl
 rw [he]
 generalize zlf (ofS l mask) (totS l) = r at *
 generalize ofS l mask = o at *
 generalize totS l = t at *
 generalize mayB l = b at *
 clear h hm he
 go_enter Tryz.func179, Tryz.ntmps179
 go_wp2_with fail
 refine HM.out.mono ?_
 rintro e w1 ⟨rfl, g1⟩
 have G1 := Lib.hid g1
 clear g1
 cases b
 ·
  go_wp2_with fail
  go_ret
  exact ⟨by cases r <;> rfl, G1.out⟩
 go_wp2_with fail
 refine (HO.out _ G1.out).mono ?_
 rintro e w2 ⟨rfl, g⟩
 have G2 := Lib.hid (zab G1.out g)
 clear g
 go_wp2_with fail
 refine (HT.out _ G2.out).mono ?_
 rintro e w3 ⟨rfl, g⟩
 have G3 := Lib.hid (zab G2.out g)
 clear g
 go_wp2_with fail
 refine (HX.out _).mono ?_
 rintro e w4 ⟨rfl, g⟩
 have G4 := Lib.hid (zab G3.out g)
 clear g
 cases r <;> (
  go_wp2_with fail
  go_ret
  exact ⟨rfl, G4.out⟩)
def cntL (l : List Nd) (ls : List Lk) (bal : List UInt64) : List Lk := if zeg l ls bal = true then ls.filter (cntB l bal) else []
def zfb (k : List Ck) (y : Lk) : Bool := decide (y.s ∈ k) && !decide (y.t ∈ k)
section
variable {l : List Nd} {ls : List Lk} {bal : List UInt64} {k js : List Ck}
theorem zyg (l : List Nd) (ls : List Lk) (bal : List UInt64) : (cntL l ls bal).length ≤ ls.length := by
 unfold cntL
 split
 ·
  exact List.length_filter_le _ _
 ·
  exact Nat.zero_le _
theorem zqt (h : zeg l ls bal = true) : cntL l ls bal = ls.filter (cntB l bal) := by unfold cntL; rw [if_pos h]
theorem z4l (h : zeg l ls bal = false) : cntL l ls bal = [] := by unfold cntL; rw [if_neg (by rw [h]; exact Bool.false_ne_true)]
theorem zpr {α : Type} {p : α → Bool} {x : α} {L : List α} : ∀ (ys : List α), ys ++ [x] <+: L → (∀ y ∈ ys, p y = false) → p x = true → L.find? p = some x
 | [], h, _, hx => by
  obtain ⟨t, rfl⟩ := h
  show List.find? p (x :: t) = _
  rw [List.find?_cons, hx]
 | y :: ys, h, ha, hx => by
  obtain ⟨t, rfl⟩ := h
  show List.find? p (y :: (ys ++ [x] ++ t)) = _
  rw [List.find?_cons, ha y List.mem_cons_self]
  exact zpr ys ⟨t, rfl⟩ (fun z hz => ha z (List.mem_cons_of_mem _ hz)) hx
theorem zh9 {α : Type} (p q : α → Bool) : ∀ L : List α, (L.filter p).find? q = L.find? fun a => p a && q a
 | [] => rfl
 | a :: L => by
  rw [List.filter_cons, List.find?_cons]
  cases h : p a
  ·
   rw [if_neg Bool.false_ne_true, Bool.false_and]
   exact zh9 p q L
  ·
   rw [if_pos rfl, List.find?_cons, Bool.true_and, zh9 p q L]
theorem zm0 (cnt : Lk → Bool) (ls : List Lk) (k : List Ck) : zde cnt ls k = (ls.filter cnt).find? (zfb k) := by
 rw [zh9]; rfl
theorem ybg {x : Lk} {ys : List Lk} (h : ys ++ [x] <+: cntL l ls bal) (h1 : ∀ y ∈ ys, zfb k y = false) (h2 : zfb k x = true) : zc3 l ls bal (k ++ [x.t]) = zc3 l ls bal k ∧ zlg ls (k ++ [x.t]) < zlg ls k := by
 cases ht : zeg l ls bal
 ·
  rw [z4l ht] at h
  obtain ⟨t, e⟩ := h
  simp at e
 ·
  have hf := zpr ys h h1 h2
  rw [zqt ht, ← zm0] at hf
  rw [zjc ht, zjc ht]
  exact ⟨(zt3 hf).symm, zfo hf⟩
theorem ybh (h : ∀ y ∈ cntL l ls bal, zfb k y = false) : zc3 l ls bal k = k := by
 cases ht : zeg l ls bal
 ·
  exact zy6 ht
 ·
  rw [zjc ht]
  rw [zqt ht] at h
  refine zdz ?_ _
  rw [zm0]
  exact List.find?_eq_none.2 fun y hy => by rw [h y hy]; exact Bool.false_ne_true
def yfj (js : List Ck) (y : Lk) : Bool := decide (y.t ∈ js) && decide ((y.t.epoch.toNat : Int) = ((y.s.epoch + 1).toNat : Int))
def srcs (js : List Ck) (L : List Lk) : List Ck := (L.filter (yfj js)).map Lk.s
theorem z74 (js : List Ck) (L : List Lk) (x : Lk) : srcs js (L ++ [x]) = srcs js L ++ (if yfj js x = true then [x.s] else []) := by
 unfold srcs
 rw [List.filter_append, List.map_append]
 congr 1
 rw [List.filter_cons]
 split <;> rfl
theorem zmz : zb1 l ls bal js = js.filter fun c => decide (c ∈ srcs js (cntL l ls bal)) := by
 cases ht : zeg l ls bal
 ·
  rw [zpq ht, z4l ht]
  refine (List.filter_eq_nil_iff.2 fun c _ => ?_).symm
  simp [srcs]
 ·
  rw [zmy ht, zqt ht]
  unfold zv4
  refine List.filter_congr fun c _ => ?_
  rw [Bool.eq_iff_iff, decide_eq_true_iff]
  unfold zfa srcs yfj
  rw [List.any_eq_true, List.mem_map]
  have hl := (zu4.1 ht).2.1
  have hup : ∀ y ∈ ls, y.s.epoch.toNat < y.t.epoch.toNat := fun y hy => by
   obtain ⟨i, hi, rfl⟩ := List.getElem_of_mem hy
   have := ((zf9.1 hl).1 i hi).1.1
   rwa [zd6 hi] at this
  have key : ∀ y ∈ ls, (decide (y.t.epoch.toNat = y.s.epoch.toNat + 1)) = decide ((y.t.epoch.toNat : Int) = ((y.s.epoch + 1).toNat : Int)) := fun y hy => by
   have h1 := hup y hy
   have h2 := y.t.epoch.toNat_lt
   have h3 : (y.s.epoch + 1).toNat = (y.s.epoch.toNat + 1) % 18446744073709551616 := by rw [UInt64.toNat_add]; rfl
   rw [h3, Nat.mod_eq_of_lt (by omega)]
   exact decide_eq_decide.2 (by omega)
  constructor
  ·
   rintro ⟨y, hy, h⟩
   rw [Bool.and_eq_true, Bool.and_eq_true, Bool.and_eq_true] at h
   obtain ⟨h1, h2, h3, h4⟩ := h
   have e := of_decide_eq_true h3
   subst e
   refine ⟨y, List.mem_filter.2 ⟨List.mem_filter.2 ⟨hy, h1⟩, ?_⟩, rfl⟩
   rw [Bool.and_eq_true]
   exact ⟨h2, by rw [← key y hy]; exact h4⟩
  ·
   rintro ⟨y, hy, rfl⟩
   obtain ⟨hy, h2⟩ := List.mem_filter.1 hy
   obtain ⟨hy, h1⟩ := List.mem_filter.1 hy
   rw [Bool.and_eq_true] at h2
   refine ⟨y, hy, ?_⟩
   rw [Bool.and_eq_true, Bool.and_eq_true, Bool.and_eq_true]
   exact ⟨h1, h2.1, decide_eq_true rfl, by rw [key y hy]; exact h2.2⟩
theorem zj3 {lt : Rt → Rt → Bool} {ok : Ck → Bool} {b : Nat} : ∀ (L : List Ck) (o : Ck), zfh lt ok (L.filter fun c => !decide (c.epoch.toNat ≤ b)) o = zfh lt (fun c => ok c && decide (b < c.epoch.toNat)) L o
 | [], o => rfl
 | c :: L, o => by
  rw [List.filter_cons]
  by_cases h : c.epoch.toNat ≤ b
  ·
   rw [if_neg (by rw [decide_eq_true h]; decide), zj3 L o]
   show _ = zfh lt _ L (if ((ok c && decide (b < c.epoch.toNat)) && betC lt o c) = true then c else o)
   rw [decide_eq_false (show ¬ b < c.epoch.toNat by omega), Bool.and_false, Bool.false_and, if_neg Bool.false_ne_true]
  ·
   rw [if_pos (by rw [decide_eq_false h]; rfl)]
   show zfh lt ok _ (if (ok c && betC lt o c) = true then c else o) = zfh lt _ L (if ((ok c && decide (b < c.epoch.toNat)) && betC lt o c) = true then c else o)
   rw [decide_eq_true (show b < c.epoch.toNat by omega), Bool.and_true]
   exact zj3 L _
theorem z6j {fin : Ck} : zh5 l ((zb1 l ls bal js).filter fun c => !decide (c.epoch.toNat ≤ fin.epoch.toNat)) fin = znq l ls bal js fin := zj3 _ _
end
def yed (l : List Nd) (ls : List Lk) (bal : List UInt64) (w : World) (e : Ending) (w' : World) : Prop :=
 ∃ (b m c : Nat) (p : Option Addr), e = .returned (.func (.func 203) #[] #[.pointer (some ⟨b, 0, none⟩)]) ∧ w'.heap[b]? = some (.cells #[.slice p m c] 31 (0, 0)) ∧ (cntL l ls bal).length = m ∧
  OwnE Elk w' w.heap.size (.slice p m c) (cntL l ls bal) ∧ w.heap.size ≤ b ∧ Below w.heap.size w w'
theorem z0m (s : SlV) (p : Option Addr) (n cp : Nat) (vb : Value) (l : List Nd) (ls : List Lk) (bal : List UInt64) (w : World) (h : SlE Ene w (sv s) l) (h1 : SlE Elk w (.slice p n cp) ls) (h2 : SlE Enum w vb bal) (hl : ls.length = n) (hn : n ≤ 1000) :
  Calls Tryz.prog 154 #[.agg (tr ⟨s⟩), .slice p n cp, vb] w (yed l ls bal w) := by
 have HBh := Lib.hid (fun c d W (g : Below w.heap.size w W) => zpw s l c d W (zad g h))
 have HMy := Lib.hid (fun W (g : Below w.heap.size w W) => zfi s l W (zad g h))
 have HLm := Lib.hid (fun W (g : Below w.heap.size w W) => z51 (.slice p n cp) ls W (zad g h1))
 have HSm := Lib.hid (fun W (g : Below w.heap.size w W) => zl0 vb bal W (zad g h2))
 have HSt := Lib.hid (fun m W (g : Below w.heap.size w W) => z77 vb bal m W (zad g h2))
 have HL := Lib.hid hl
 have HN := Lib.hid hn
 have K := Lib.hid h1
 have HVf : Hid (∀ (q : Option Addr) (m c : Nat) W, Calls Tryz.prog 180 #[.slice q m c] W fun e w' => e = .returned (.func (.func 203) #[] #[.pointer (some ⟨W.heap.size, 0, none⟩)]) ∧ w' = W.alloc (.cells #[.slice q m c] 31)) := zu0
 obtain ⟨vL, hvL⟩ : ∃ vL, vL = cntL l ls bal := ⟨_, rfl⟩
 have HEnd : Hid (∀ (q : Option Addr) (m c : Nat) (W W' : World), OwnE Elk W w.heap.size (.slice q m c) vL → vL.length = m → Below w.heap.size w W → W' = W.alloc (.cells #[.slice q m c] 31) → yed l ls bal w (.returned (.func (.func 203) #[] #[.pointer (some ⟨W.heap.size, 0, none⟩)])) W') := fun q m c W W' ho hlm hb e => by
  subst e
  refine ⟨W.heap.size, m, c, q, rfl, heap_alloc_last W _, by rw [← hvL]; exact hlm, by rw [← hvL]; exact zaw ho _, hb.size, zab hb below1⟩
 have HvL := Lib.hid hvL
 obtain ⟨ma, hma⟩ : ∃ b, b = decide (MayT l) := ⟨_, rfl⟩
 obtain ⟨mb, hmb⟩ : ∃ b, b = mayL ls := ⟨_, rfl⟩
 obtain ⟨mc, hmc⟩ : ∃ b, b = mayB bal := ⟨_, rfl⟩
 rw [← hma] at HMy
 rw [← hmb] at HLm
 rw [← hmc] at HSm
 have HTo : Hid (zeg l ls bal = (ma && (mb && mc))) := by show _ = _; rw [hma, hmb, hmc]; rfl
 obtain ⟨W0, hW0⟩ : ∃ W0, W0 = w.alloc (.cells (tr ⟨s⟩) 24) := ⟨_, rfl⟩
 have HB : Hid (Below w.heap.size w W0) := by rw [hW0]; exact below1
 have T0 : Hid (W0.heap[w.heap.size]? = some (.cells (tr ⟨s⟩) 24 (0, 0))) := by rw [hW0]; exact heap_alloc_last w _
 have HW := Lib.hid hW0
 have z0 := (zai T0.out).2.1
 obtain ⟨ib, hib, hz0, hz1, hz2⟩ := info_parts z5o
 clear hW0 h h1 h2 hl hn hma hmb hmc hvL ib hib hz0 hz1 hz2
 go_enter Tryz.func154, Tryz.ntmps154
 go_upto_region 1 with fail
 rw [← HW.out]
 go_wp2_with fail
 refine (HMy.out W0 HB.out).mono ?_
 rintro e w1 ⟨rfl, g⟩
 have G1 := Lib.hid (zab HB.out g)
 replace T0 := Lib.hid (zac g T0.out)
 clear g z0 HB HW HMy
 cases ma
 ·
  have HF : Hid (vL = []) := by show vL = []; rw [HvL.out]; unfold cntL; rw [HTo.out]; rfl
  go_wp2_with fail
  refine (HVf.out _ _ _ _).mono ?_
  rintro e w2 ⟨rfl, g⟩
  have HG := Lib.hid g
  clear g
  go_wp2_with fail
  go_ret
  exact HEnd.out none 0 0 w1 w2 (by rw [HF.out]; exact za8 _ _ _) (by rw [HF.out]; rfl) G1.out HG.out
 ·
  go_wp2_with fail
  refine (HLm.out w1 G1.out).mono ?_
  rintro e w2 ⟨rfl, g⟩
  have G2 := Lib.hid (zab G1.out g)
  replace T0 := Lib.hid (zac g T0.out)
  clear g HLm
  cases mb
  ·
   have HF : Hid (vL = []) := by show vL = []; rw [HvL.out]; unfold cntL; rw [HTo.out]; rfl
   go_wp2_with fail
   refine (HVf.out _ _ _ _).mono ?_
   rintro e w3 ⟨rfl, g⟩
   have HG := Lib.hid g
   clear g
   go_wp2_with fail
   go_ret
   exact HEnd.out none 0 0 w2 w3 (by rw [HF.out]; exact za8 _ _ _) (by rw [HF.out]; rfl) G2.out HG.out
  ·
   go_wp2_with fail
   refine (HSm.out w2 G2.out).mono ?_
   rintro e w3 ⟨rfl, g⟩
   have G3 := Lib.hid (zab G2.out g)
   replace T0 := Lib.hid (zac g T0.out)
   clear g HSm G1 G2
   cases mc
   ·
    have HF : Hid (vL = []) := by show vL = []; rw [HvL.out]; unfold cntL; rw [HTo.out]; rfl
    go_wp2_with fail
    refine (HVf.out _ _ _ _).mono ?_
    rintro e w4 ⟨rfl, g⟩
    have HG := Lib.hid g
    clear g
    go_wp2_with fail
    go_ret
    exact HEnd.out none 0 0 w3 w4 (by rw [HF.out]; exact za8 _ _ _) (by rw [HF.out]; rfl) G3.out HG.out
   ·
    have HF : Hid (vL = ls.filter (cntB l bal)) := by show vL = _; rw [HvL.out]; unfold cntL; rw [HTo.out]; rfl
    go_wp2_with fail
    go_loopw [7, 22] (fun v i wr => ∃ (j : Nat), j ≤ n ∧ i = .int .i64 (j : Int) ∧ OwnE Elk wr w.heap.size v ((ls.take j).filter (cntB l bal)) ∧ Below w.heap.size w wr ∧ wr.heap[w.heap.size]? = some (.cells (tr ⟨s⟩) 24 (0, 0)) ∧ (∀ k, v.ownBlock = some k → w.heap.size < k)) (fun _ i _ => n - (intOf i).toNat)
    case atStart => exact ⟨0, Nat.zero_le _, rfl, za8 _ _ _, G3.out, T0.out, fun k e => by cases e⟩
    case round =>
     obtain ⟨j, hj, rfl, ho, hg, ht, hne⟩ := hrel
     have HO := Lib.hid ho
     have HG := Lib.hid hg
     have HT := Lib.hid ht
     have HNe := Lib.hid hne
     clear ho hg ht hne T0 G3
     by_cases hlt : j < n
     ·
      have i0 : (0 : Int) ≤ (j : Int) := by omega
      have i1 : (j : Int) < (n : Int) := by omega
      have d0 : decide ((j : Int) < (n : Int)) = true := decide_eq_true i1
      have d0' : decide (j < n) = true := decide_eq_true hlt
      have u1 : (j : Int) + 1 < 10000 := by have := HN.out; omega
      have HLT := Lib.hid hlt
      obtain ⟨b1, o1, rfl, q1, x1⟩ := zes K.out (by have := HL.out; omega)
      have y1 := Go.Proofs.YtkalofboioffiaaGreat.keep HG.out (zi9 x1 (i := j) (by have := HL.out; omega))
      have HTk : Hid ((ls.take (j + 1)).filter (cntB l bal) = (ls.take j).filter (cntB l bal) ++ (if cntB l bal (lkAt ls j) = true then [lkAt ls j] else [])) := by
       show _ = _
       rw [List.take_add_one, List.getElem?_eq_getElem (by have := HL.out; omega), List.filter_append, zd6 (by have := HL.out; omega)]
       congr 1
       show List.filter _ [_] = _
       rw [List.filter_cons]
       rfl
      generalize lkAt ls j = X at *
      obtain ⟨cb, hcb⟩ : ∃ b, b = zbz l X.t X.s := ⟨_, rfl⟩
      obtain ⟨cm, hcm⟩ : ∃ b, b = zt4 bal X.mask := ⟨_, rfl⟩
      have HCb := Lib.hid (HBh.out X.t X.s)
      have HCm := Lib.hid (HSt.out X.mask)
      rw [← hcb] at HCb
      rw [← hcm] at HCm
      have HCc : Hid (cntB l bal X = (cb && cm)) := by show _ = _; rw [hcb, hcm]; rfl
      have HKl : Hid (((ls.take j).filter (cntB l bal)).length ≤ 1000) := by
       show _ ≤ _
       have := List.length_filter_le (cntB l bal) (ls.take j)
       rw [List.length_take] at this
       have := HN.out
       omega
      rw [HCc.out] at HTk
      obtain ⟨k, hk⟩ : ∃ k, k = (ls.take j).filter (cntB l bal) := ⟨_, rfl⟩
      rw [← hk] at HO HTk HKl
      clear x1 q1 hlt hj hcb hcm hk
      go_upto_region 6 with fail
      obtain ⟨W5, hW5⟩ : ∃ W5, W5 = wr.alloc (.cells (lk X) 118) := ⟨_, rfl⟩
      rw [← hW5]
      have g5 : Below wr.heap.size wr W5 := by rw [hW5]; exact below1
      have X5 : Hid (W5.heap[wr.heap.size]? = some (.cells (lk X) 118 (0, 0))) := by show _ = _; rw [hW5]; exact heap_alloc_last wr _
      replace HG := Lib.hid (zab HG.out g5)
      replace HT := Lib.hid (zac g5 HT.out)
      replace HO := Lib.hid (za5 g5 HO.out)
      obtain ⟨Q, hQ⟩ : ∃ Q, Q = wr.heap.size := ⟨_, rfl⟩
      rw [← hQ] at X5 ⊢
      clear hW5 y1 hQ g5
      have z1 := (lk_v X5.out).m
      go_wp2_with fail
      refine (HCm.out _ HG.out).mono ?_
      rintro e w5 ⟨rfl, g⟩
      replace HG := Lib.hid (zab HG.out g)
      replace HT := Lib.hid (zac g HT.out)
      replace X5 := Lib.hid (zac g X5.out)
      replace HO := Lib.hid (za5 g HO.out)
      clear g z1
      have z0 := (zai HT.out).2.1
      have z1 := (lk_v X5.out).s
      have z2 := (lk_v X5.out).t
      cases cm
      ·
       go_wp2_with fail
       go_roundw
       case rel => exact ⟨j + 1, HLT.out, by go_num, by rw [HTk.out, Bool.and_false, if_neg Bool.false_ne_true, List.append_nil]; exact HO.out, HG.out, HT.out, HNe.out⟩
       case measure => simp [intOf]; have := HLT.out; omega
      ·
       go_wp2_with fail
       refine (HCb.out _ HG.out).mono ?_
       rintro e w6 ⟨rfl, g⟩
       replace HG := Lib.hid (zab HG.out g)
       replace HT := Lib.hid (zac g HT.out)
       replace X5 := Lib.hid (zac g X5.out)
       replace HO := Lib.hid (za5 g HO.out)
       clear g z0 z1 z2
       cases cb
       ·
        go_wp2_with fail
        go_roundw
        case rel => exact ⟨j + 1, HLT.out, by go_num, by rw [HTk.out, Bool.false_and, if_neg Bool.false_ne_true, List.append_nil]; exact HO.out, HG.out, HT.out, HNe.out⟩
        case measure => simp [intOf]; have := HLT.out; omega
       ·
        have z1 := (lk_v X5.out).a
        go_wp2_with (at_builtin; refine za1 Klk _ rfl _ _ rfl w.heap.size _ k rfl (zaw HO.out _) _ [X] rfl (yf4 _ X _ rfl) (by have := HKl.out; simp; omega) (by have := HG.out.size; simp; omega) ?_; intro v' w7 ho7 hg7)
        go_roundw
        case rel =>
         have h1 : ∀ q, v'.ownBlock = some q → w.heap.size < q := fun q hq => by
          rcases hg7.2 with e | e
          ·
           exact HNe.out q (e.symm.trans hq)
          ·
           have := e q hq; simp at this; have := (Array.getElem?_eq_some_iff.1 HT.out).1; omega
         have h2 : Below w.heap.size w w7 := (zab HG.out below1).trans (hg7.own (zaw HO.out _) (by have := HG.out.size; simp; omega))
         exact ⟨j + 1, HLT.out, by go_num, by rw [HTk.out, Bool.true_and, if_pos rfl]; exact ho7, h2, hg7.alloc.heap HT.out (fun e => by have := HNe.out _ e; omega), h1⟩
        case measure => simp [intOf]; have := HLT.out; omega
     ·
      obtain rfl : j = n := by omega
      have d0 : decide ((j : Int) < (j : Int)) = false := decide_eq_false (Int.lt_irrefl _)
      have d0' : decide (j < j) = false := decide_eq_false (Nat.lt_irrefl _)
      rw [List.take_of_length_le (by rw [HL.out]; exact Nat.le_refl _), ← HF.out] at HO
      obtain ⟨pv, cv, rfl⟩ := zb4 HO.out
      have HLv : Hid (∃ m, vL.length = m) := ⟨_, rfl⟩
      obtain ⟨m, hm⟩ := HLv.out
      rw [hm] at HO
      have HM := Lib.hid hm
      rw [hm]
      clear hlt hm HLv
      go_wp2_with fail
      refine (HVf.out _ _ _ _).mono ?_
      rintro e w4 ⟨rfl, g⟩
      have HGe := Lib.hid g
      clear g
      go_wp2_with fail
      go_ret
      exact HEnd.out pv m cv wr w4 HO.out HM.out HG.out HGe.out
theorem zpl (s : SlV) (u vb : Value) (l : List Nd) (ls : List Lk) (bal : List UInt64) (w : World) (h : SlE Ene w (sv s) l) (h1 : SlE Elk w u ls) (h2 : SlE Enum w vb bal) (hn : ls.length ≤ 1000) :
  Calls Tryz.prog 154 #[.agg (tr ⟨s⟩), u, vb] w (yed l ls bal w) := by
 have k := h1
 obtain ⟨p, cp, rfl, _⟩ := zal h1
 exact z0m s p _ cp vb l ls bal w h k h2 rfl hn
end Go.Proofs.YtkalofboioffiaaGreat
