import Derived.Test.YtkalofboioffiaaGreatQ26
import Derived.WalkSpells
import Derived.KernelRfl
import Derived.Lib.Mul64
namespace Go.Proofs.YtkalofboioffiaaGreat
open Go.RowKit
set_option maxRecDepth 200000
set_option maxHeartbeats 64000000
def mxU (f : Nat → Nat) : Nat → Nat
 | 0 => 0
 | n + 1 => if mxU f n < f n then f n else mxU f n
theorem yjs (f : Nat → Nat) (B : Nat) : ∀ n, mxU f n ≤ B ↔ ∀ i, i < n → f i ≤ B
 | 0 => ⟨fun _ i hi => absurd hi (Nat.not_lt_zero _), fun _ => Nat.zero_le _⟩
 | n + 1 => by
  have ih := yjs f B n
  simp only [mxU]
  constructor
  ·
   intro h i hi
   split at h
   ·
    rename_i hc
    rcases Nat.lt_succ_iff_lt_or_eq.1 hi with h1 | rfl
    ·
     exact ih.1 (by omega) i h1
    ·
     exact h
   ·
    rename_i hc
    rcases Nat.lt_succ_iff_lt_or_eq.1 hi with h1 | rfl
    ·
     exact ih.1 h i h1
    ·
     omega
  ·
   intro h
   have h1 := ih.2 (fun i hi => h i (by omega))
   have h2 := h n (by omega)
   split <;> omega
theorem ybs {f : Nat → Nat} {n : Nat} (h : mxU f n < f n) : mxU f (n + 1) = f n := if_pos h
theorem yjt {f : Nat → Nat} {n : Nat} (h : ¬ mxU f n < f n) : mxU f (n + 1) = mxU f n := if_neg h
theorem z1w (p : Option Addr) (n cp : Nat) (l : List UInt64) (w : World) (h : SlE Enum w (.slice p n cp) l) (hl : l.length = n) (h1 : 1 ≤ n) (hn : n ≤ 1000) :
  Calls Tryz.prog 100 #[.slice p n cp] w fun e w' => e = .returned (.int .u64 (mxU (fn l) n : Int)) ∧ Below w.heap.size w w' := by
 have HS := Lib.hid h
 have HL := Lib.hid hl
 have HN := Lib.hid hn
 have H1 := Lib.hid h1
 have HZ : Hid (mxU (fn l) 1 = fn l 0) := by
  show mxU (fn l) 1 = fn l 0
  by_cases h0 : mxU (fn l) 0 < fn l 0
  ·
   exact ybs h0
  ·
   rw [yjt h0]; have : mxU (fn l) 0 = 0 := rfl; omega
 obtain ⟨b1, o1, rfl, q1, x1⟩ := zgi h (by omega)
 have y1 := zd4 x1 (i := 0) (by omega)
 have t0 : decide ((n : Int) < 1) = false := decide_eq_false (by omega)
 have t0' : decide (n < 1) = false := decide_eq_false (by omega)
 have t0'' : decide (n = 0) = false := decide_eq_false (by omega)
 have i1 : (0 : Int) < (n : Int) := by omega
 have i1' : 0 < n := by omega
 clear h hl hn h1 x1 q1
 simp only [Nat.add_zero] at y1
 go_enter Tryz.func100, Tryz.ntmps100
 go_wp2_with fail
 clear y1 t0 t0' t0'' i1 i1'
 go_loopw [3, 4] (fun m i wr => ∃ j : Nat, 1 ≤ j ∧ j ≤ n ∧ i = .int .i64 (j : Int) ∧ m = .int .u64 (mxU (fn l) j : Int) ∧ wr = w) (fun _ i _ => n - (intOf i).toNat)
 case atStart => exact ⟨1, Nat.le_refl _, H1.out, rfl, by rw [HZ.out], rfl⟩
 case round =>
  obtain ⟨j, hj1, hj, rfl, rfl, rfl⟩ := hrel
  have HJ1 := Lib.hid hj1
  clear hj1
  by_cases hlt : j < n
  ·
   have i0 : (0 : Int) ≤ (j : Int) := by omega
   have i1 : (j : Int) < (n : Int) := by omega
   have u1 : (j : Int) + 1 < 10000 := by have := HN.out; omega
   have d0 : decide ((j : Int) < (n : Int)) = true := decide_eq_true i1
   have d0' : decide (j < n) = true := decide_eq_true hlt
   obtain ⟨b1, o1, e1, q1, x1⟩ := zgi HS.out (by have := HL.out; omega)
   cases e1
   have y1 := zd4 x1 (i := j) (by have := HL.out; omega)
   have HLT := Lib.hid hlt
   by_cases hc : mxU (fn l) j < fn l j
   ·
    have HX := Lib.hid (ybs hc)
    obtain ⟨x, hx⟩ : ∃ x, x = mxU (fn l) j := ⟨_, rfl⟩
    obtain ⟨y, hy⟩ : ∃ y, y = fn l j := ⟨_, rfl⟩
    rw [← hx] at hc
    rw [← hx]
    rw [← hy] at hc y1 HX
    have c1 : (x : Int) < (y : Int) := by omega
    have HC := Lib.hid hc
    clear hlt x1 q1 hx hy
    go_wp2_with fail
    go_roundw
    case rel => exact ⟨j + 1, by have := HJ1.out; omega, HLT.out, by go_num, by rw [HX.out], by first | rfl | trivial⟩
    case measure => simp [intOf]; have := HLT.out; omega
   ·
    have HX := Lib.hid (yjt hc)
    obtain ⟨x, hx⟩ : ∃ x, x = mxU (fn l) j := ⟨_, rfl⟩
    obtain ⟨y, hy⟩ : ∃ y, y = fn l j := ⟨_, rfl⟩
    rw [← hx] at hc HX
    rw [← hx]
    rw [← hy] at hc y1
    have c1 : ¬ (x : Int) < (y : Int) := by omega
    have HC := Lib.hid hc
    clear hlt x1 q1 hx hy
    go_wp2_with fail
    go_roundw
    case rel => exact ⟨j + 1, by have := HJ1.out; omega, HLT.out, by go_num, by rw [HX.out], by first | rfl | trivial⟩
    case measure => simp [intOf]; have := HLT.out; omega
  ·
   obtain rfl : j = n := by omega
   clear hlt
   go_wp2_with fail
   go_ret
   exact ⟨rfl, Below.refl _ _⟩
theorem znb (p : Option Addr) (n cp : Nat) (l : List UInt64) (w : World) (h : SlE Enum w (.slice p n cp) l) (hl : l.length = n) :
  Calls Tryz.prog 56 #[.slice p n cp] w fun e w' => e = .returned (.bool (mayB l)) ∧ Below w.heap.size w w' := by
 by_cases h0 : 0 < n
 ·
  have a0 : decide ((0 : Int) < (n : Int)) = true := decide_eq_true (by omega)
  have a0' : decide (0 < n) = true := decide_eq_true h0
  by_cases h8 : n ≤ 8
  ·
   have a8 : decide ((n : Int) ≤ 8) = true := decide_eq_true (by omega)
   have a8' : decide (n ≤ 8) = true := decide_eq_true h8
   have HM := Lib.hid (z1w p n cp l w h hl (by omega) (by omega))
   have HE : Hid (mayB l = decide (mxU (fn l) n ≤ 1099511627776)) := by
    show _ = _
    rw [Bool.eq_iff_iff, zer, decide_eq_true_iff, yjs, hl]
    exact ⟨fun h => h.2.2, fun h => ⟨by omega, h8, h⟩⟩
   generalize mxU (fn l) n = m at *
   obtain ⟨r, hr⟩ : ∃ r, r = decide (m ≤ 1099511627776) := ⟨_, rfl⟩
   have d0 : decide ((m : Int) ≤ 1099511627776) = r := by rw [hr]; congr 1; rw [eq_iff_iff]; omega
   have d0' : decide (m ≤ 1099511627776) = r := hr.symm
   rw [HE.out, d0']
   clear h0 h8 h hl hr HE
   go_enter Tryz.func56, Tryz.ntmps56
   go_wp2_with fail
   refine HM.out.mono ?_
   rintro e w1 ⟨rfl, g⟩
   go_wp2_with fail
   go_ret
   exact ⟨rfl, g⟩
  ·
   have a8 : decide ((n : Int) ≤ 8) = false := decide_eq_false (by omega)
   have a8' : decide (n ≤ 8) = false := decide_eq_false h8
   rw [show mayB l = false by rw [← Bool.not_eq_true, zer]; omega]
   clear h0 h8 h hl
   go_enter Tryz.func56, Tryz.ntmps56
   go_wp2_with fail
   go_ret
   exact ⟨rfl, Below.refl _ _⟩
 ·
  obtain rfl : n = 0 := by omega
  rw [show mayB l = false by rw [← Bool.not_eq_true, zer]; omega]
  clear h0 h hl
  go_enter Tryz.func56, Tryz.ntmps56
  go_wp2_with fail
  go_ret
  exact ⟨rfl, Below.refl _ _⟩
theorem zow : yo0 := fun v l w h => by
 have k := h
 obtain ⟨p, cp, rfl, _⟩ := zar h
 exact znb p _ cp l w k rfl
theorem z8j (mask : UInt64) : (whoT mask).Pairwise (· < ·) := by unfold whoT; exact List.Pairwise.filter _ List.pairwise_lt_range
theorem yi1 (mask : UInt64) : (whoT mask).length ≤ 64 := by
 unfold whoT
 have := List.length_filter_le (hasB mask) (List.range 64)
 rwa [List.length_range] at this
def ysp : Prop := ∀ (v : Value) (l : List UInt64) (m : UInt64) (w : World), SlE Enum w v l → Calls Tryz.prog 201 #[v, .int .u64 (m.toNat : Int)] w fun e w' => e = .returned (.int .u64 (ofS l m : Int)) ∧ Below w.heap.size w w'
def yej : Prop := ∀ (v : Value) (l : List UInt64) (w : World), SlE Enum w v l → Calls Tryz.prog 202 #[v] w fun e w' => e = .returned (.int .u64 (totS l : Int)) ∧ Below w.heap.size w w'
section
open Go.Shelf
attribute [local go_sem] Oper.semAt_some
def sumV (f : Nat → Nat) (n : Nat) (ks : List Nat) : Nat := ((ks.filter fun v => decide (v < n)).map f).sum
theorem yih {f : Nat → Nat} {n : Nat} (ks : List Nat) {v : Nat} (h : v < n) : sumV f n (ks ++ [v]) = sumV f n ks + f v := by unfold sumV; rw [List.filter_append]; simp [h]
theorem z17 {f : Nat → Nat} {n : Nat} (ks : List Nat) {v : Nat} (h : n ≤ v) : sumV f n (ks ++ [v]) = sumV f n ks := by
 unfold sumV; rw [List.filter_append]; simp [show ¬ v < n by omega]
theorem yn7 {f : Nat → Nat} {n B : Nat} (h : ∀ v, v < n → f v ≤ B) (ks : List Nat) : sumV f n ks ≤ ks.length * B := by
 induction ks with
 | nil => simp [sumV]
 | cons k ks ih =>
  have e : sumV f n (k :: ks) ≤ B + sumV f n ks := by
   unfold sumV
   by_cases hk : k < n
   ·
    rw [List.filter_cons_of_pos (by simp [hk]), List.map_cons, List.sum_cons]; have := h k hk; omega
   ·
    rw [List.filter_cons_of_neg (by simp [hk])]; omega
  rw [List.length_cons, Nat.add_mul, Nat.one_mul]
  omega
theorem yn8 {f : Nat → Nat} {n : Nat} (h : ∀ v, v < n → f v ≤ 1099511627776) {ks : List Nat} (hk : ks.length ≤ 64) : sumV f n ks ≤ 70368744177664 := by
 have h1 := yn7 h ks
 omega
theorem ydl {f : Nat → Nat} {n : Nat} {L ys : List Nat} {x : Nat} (hs : L.Pairwise (· < ·)) (hp : ys ++ [x] <+: L) (hx : n ≤ x) : sumV f n L = sumV f n ys := by
 obtain ⟨t, rfl⟩ := hp
 have ht : t.filter (fun v => decide (v < n)) = [] := by
  rw [List.filter_eq_nil_iff]
  intro y hy
  rw [List.append_assoc] at hs
  have h2 := (List.pairwise_append.1 hs).2.1
  rw [List.singleton_append, List.pairwise_cons] at h2
  have := h2.1 y hy
  simp; omega
 have e : sumV f n (ys ++ [x] ++ t) = sumV f n (ys ++ [x]) := by unfold sumV; rw [List.filter_append, ht, List.append_nil]
 rw [e, z17 _ hx]
theorem z7z (p : Option Addr) (n cp : Nat) (l : List UInt64) (m : Int) (w : World) (h : SlE Enum w (.slice p n cp) l) (hl : l.length = n) (hm : mayB l = false) :
  Calls Tryz.prog 201 #[.slice p n cp, .int .u64 m] w fun e w' => e = .returned (.int .u64 0) ∧ Below w.heap.size w w' := by
 have HMy : Hid (∀ W, Below w.heap.size w W → Calls Tryz.prog 56 #[.slice p n cp] W fun e w' => e = .returned (.bool false) ∧ Below W.heap.size W w') := fun W g => by
  have := znb p n cp l W (zad g h) hl
  rwa [hm] at this
 obtain ⟨W0, hW0⟩ : ∃ W0, W0 = w.alloc (.cells #[.slice p n cp] 25) := ⟨_, rfl⟩
 have HB : Hid (Below w.heap.size w W0) := by rw [hW0]; exact below1
 have HW := Lib.hid hW0
 clear hW0 h hl hm
 go_enter Tryz.func201, Tryz.ntmps201
 go_wp2_with fail
 rw [← HW.out]
 refine (HMy.out W0 HB.out).mono ?_
 rintro e w1 ⟨rfl, g1⟩
 have G1 := Lib.hid (zac HB.out g1)
 clear g1
 go_wp2_with fail
 go_ret
 exact ⟨rfl, G1.out⟩
theorem z14 (p : Option Addr) (n cp : Nat) (l : List UInt64) (mask : UInt64) (w : World) (h : SlE Enum w (.slice p n cp) l) (hl : l.length = n) (hmay : mayB l = true) :
  Calls Tryz.prog 201 #[.slice p n cp, .int .u64 (mask.toNat : Int)] w fun e w' => e = .returned (.int .u64 (ofS l mask : Int)) ∧ Below w.heap.size w w' := by
 have HMy : Hid (∀ W, Below w.heap.size w W → Calls Tryz.prog 56 #[.slice p n cp] W fun e w' => e = .returned (.bool true) ∧ Below W.heap.size W w') := fun W g => by
  have := znb p n cp l W (zad g h) hl
  rwa [hmay] at this
 have HS := Lib.hid h
 have HL := Lib.hid hl
 obtain ⟨z, hz⟩ : ∃ z, z = ofS l mask := ⟨_, rfl⟩
 obtain ⟨_, h2, h3⟩ := zer.1 hmay
 have HX1 : Hid (z = sumV (fn l) n (whoT mask)) := by
  show z = _
  rw [hz, yb3 hmay, hl]
  exact (yra (fn l) mask (by omega)).symm
 have HX2 : Hid (∀ v, v < n → fn l v ≤ 1099511627776) := fun v hv => h3 v (by omega)
 have HX3 : Hid (n ≤ 8) := by show n ≤ 8; omega
 rw [← hz]
 obtain ⟨W0, hW0⟩ : ∃ W0, W0 = w.alloc (.cells #[.slice p n cp] 25) := ⟨_, rfl⟩
 have HB : Hid (Below w.heap.size w W0) := by rw [hW0]; exact below1
 have M0 : Hid (W0.heap[w.heap.size]? = some (.cells #[.slice p n cp] 25 (0, 0))) := by rw [hW0]; exact heap_alloc_last w _
 have HW := Lib.hid hW0
 have HE : Hid (∀ W, Calls Tryz.prog 209 #[.int .u64 (mask.toNat : Int)] W fun e w' => e = .returned (.func (.func 213) #[] #[.pointer (some ⟨W.heap.size, 0, none⟩)]) ∧ w' = W.alloc (.cells #[.int .u64 (mask.toNat : Int)] 27)) := fun W => yde _ W
 have HD := Lib.hid (fun (w2 : World) (s0 D bt : Nat) (hs0 : s0 ≤ w2.heap.size) (hDb : D < bt) t0 => z5k 2 (by omega) mask s0 D bt w2 hs0 hDb t0)
 obtain ⟨m, hm⟩ : ∃ m, m = (mask.toNat : Int) := ⟨_, rfl⟩
 rw [← hm] at HE HD
 rw [← hm]
 clear hW0 h hl hz hm hmay h2 h3
 refine callsIn_wide.1 (callsIn_of_wp_marks (n := 3) Tryz.func201 rfl trivial (wpIn_wide.2 ?_))
 simp only [Tryz.ntmps201, List.size_toArray, List.length_cons, List.length_nil, Nat.reduceAdd, Nat.reduceSub, Array.replicate_succ, Array.replicate_zero, List.push_toArray, List.append_toArray, List.nil_append, List.cons_append]
 go_wp2_with fail
 rw [← HW.out]
 refine (HMy.out W0 HB.out).mono ?_
 rintro e w1 ⟨rfl, g1⟩
 have G1 := Lib.hid (zac HB.out g1)
 have M1 := Lib.hid (zab g1 M0.out)
 clear g1
 obtain ⟨W1, hW1⟩ : ∃ W1, W1 = w1.alloc (.cells #[.int .u64 0] 27) := ⟨_, rfl⟩
 have HB1 : Hid (Below w1.heap.size w1 W1) := by rw [hW1]; exact below1
 have M2 : Hid (W1.heap[w1.heap.size]? = some (.cells #[.int .u64 0] 27 (0, 0))) := by rw [hW1]; exact heap_alloc_last w1 _
 have HZ1 : Hid (W1.heap.size = w1.heap.size + 1) := by show _ = _; rw [hW1]; simp
 have HW1 := Lib.hid hW1
 clear hW1
 go_wp2_with fail
 rw [← HW1.out]
 refine (HE.out W1).mono ?_
 rintro e w2 ⟨rfl, hw2⟩
 have hB2 : Below W1.heap.size W1 w2 := by rw [hw2]; exact below1
 have t0 : w2.heap[W1.heap.size]? = some (.cells #[.int .u64 m] 27 (0, 0)) := by rw [hw2]; exact heap_alloc_last W1 _
 have hz2 : w2.heap.size = W1.heap.size + 1 := by rw [hw2]; simp
 have HBw : Hid (Below w.heap.size w w2) := zac G1.out (zac HB1.out hB2)
 have HSZ : Hid (w.heap.size < w1.heap.size ∧ w1.heap.size < W1.heap.size ∧ W1.heap.size < w2.heap.size) := by
  have h1 := (Array.getElem?_eq_some_iff.1 M1.out).1
  show _ ∧ _
  have := HZ1.out
  omega
 have HDn := Lib.hid (HD.out w2 w.heap.size w1.heap.size W1.heap.size (by have := HSZ.out; omega) (by have := HSZ.out; omega) t0)
 have HKb : Hid (w2.heap[w.heap.size]? = some (.cells #[.slice p n cp] 25 (0, 0))) := zab (zac HB1.out hB2) M1.out
 have HKs : Hid (w2.heap[w1.heap.size]? = some (.cells #[.int .u64 0] 27 (0, 0))) := zab hB2 M2.out
 clear hw2 hB2 t0 hz2 HD HE
 go_wp2_with fail
 refine (wpIn_wide (n := 3)).1 ?_
 have HN : Hid ((whoT mask).length ≤ 64) := yi1 mask
 refine wpIn_rangeFunc_ownF (w0 := w2) rfl (by omega) (gf := 213) (lb := #[.pointer (some ⟨W1.heap.size, 0, none⟩)]) rfl trivial (zbe Tryz.func213 (by kernel_rfl) (by kernel_rfl))
  HDn.out z22 (z21 (by have := HSZ.out; omega) (Nat.le_refl _)) (Below.refl _ _) (fun _ => rfl)
  (fun pre W => W.heap[w1.heap.size]? = some (.cells #[.int .u64 (sumV (fn l) n (pre.map Subtype.val) : Int)] 27 (0, 0)) ∧ But w.heap.size w2.heap.size w1.heap.size w2 W)
  (fun c pre W => W.heap[w1.heap.size]? = some (.cells #[.int .u64 (sumV (fn l) n (pre.map Subtype.val) : Int)] 27 (0, 0)) ∧ But w.heap.size w2.heap.size w1.heap.size w2 W ∧ (c = .exit 0 ∧ ∃ ys x, pre.map Subtype.val = ys ++ [x] ∧ n ≤ x))
  (OwnFrom.and (zz6 _ (by have := HSZ.out; omega)) (But.own (Nat.le_refl _) (Nat.le_refl _) (by have := HSZ.out; omega)))
  (fun c => OwnFrom.and (zz6 _ (by have := HSZ.out; omega)) (OwnFrom.and (But.own (Nat.le_refl _) (Nat.le_refl _) (by have := HSZ.out; omega)) (fun _ _ _ _ h _ _ => h)))
  ⟨HKs.out, But.refl _ _ _ _⟩ ?a1 ?assign ?body ?done ?stop
 case assign =>
  intro lo x W K hK
  gi_wp2
  exact hK
 case body =>
  rintro lo pre x W ⟨hp, hB⟩ hlen
  obtain ⟨k, hk⟩ := x
  have HP := Lib.hid hp
  have HBW := Lib.hid hB
  have HBB : Hid (W.heap[w.heap.size]? = some (.cells #[.slice p n cp] 25 (0, 0))) := hB.blk (by have := HSZ.out; omega) (by have := HSZ.out; omega) HKb.out
  have HSL : Hid (SlE Enum W (.slice p n cp) l) := zad (HBw.out.trans hB.below) HS.out
  obtain ⟨c1, c2⟩ := zaj hp
  have b1 := (zaj HBB.out).1
  by_cases hkn : k < n
  ·
   have a0 : decide ((n : Int) ≤ (k : Int)) = false := decide_eq_false (by omega)
   have a0' : decide (n ≤ k) = false := decide_eq_false (by omega)
   have i0 : (0 : Int) ≤ (k : Int) := by omega
   have i1 : (k : Int) < (n : Int) := by omega
   have HE2 : Hid (sumV (fn l) n ((pre ++ [(⟨k, hk⟩ : { x : Nat // x ∈ whoT mask })]).map Subtype.val) = sumV (fn l) n (pre.map Subtype.val) + fn l k) := by
    show _ = _
    rw [List.map_append, List.map_cons, List.map_nil, yih _ hkn]
   have hs1 : sumV (fn l) n (pre.map Subtype.val) ≤ 70368744177664 := yn8 HX2.out (by rw [List.length_map]; have := HN.out; omega)
   have hs2 := HX2.out k hkn
   obtain ⟨b2, o2, rfl, q2, x2⟩ := zgi HSL.out (by have := HL.out; omega)
   have y2 := zd4 x2 (i := k) (by have := HL.out; omega)
   obtain ⟨s, hs⟩ : ∃ s, s = sumV (fn l) n (pre.map Subtype.val) := ⟨_, rfl⟩
   obtain ⟨y, hy⟩ : ∃ y, y = fn l k := ⟨_, rfl⟩
   rw [← hs] at HP HE2 hs1 c1
   rw [← hy] at y2 hs2 HE2
   have u2 : (s : Int) + (y : Int) < 18446744073709551616 := by omega
   have HU : Hid (IntKind.u64.wrap ((s : Int) + (y : Int)) = ((s + y : Nat) : Int)) := by show _ = _; rw [IntKind.wrap_u64]; omega
   clear hp hB hlen hkn x2 q2 hs hy hs1 hs2 u2
   have hmix : Tryz.prog.follows .mixedOrders = true := by kernel_rfl
   gi_wp2
   gi_region_with_o fail
   all_goals (
    gi_wp2
    rw [HU.out]
    refine ⟨(KeepsOthers.drew W).trans (KeepsOthers.setCell _ _ _), (But.of_below (zak (Below.refl _ _) 1) (by have := HSZ.out; omega)).setCell (by have := HSZ.out; omega) _, ?_, (HBW.out.then (zak (Below.refl _ _) 1) (by have := HSZ.out; omega) HBW.out.below.size).setCell (by have := HSZ.out; omega) _⟩
    show _ = some (Obj.cells #[.int .u64 (sumV (fn l) n ((pre ++ [(⟨k, hk⟩ : { x : Nat // x ∈ whoT mask })]).map Subtype.val) : Int)] 27 (0, 0))
    rw [HE2.out]
    exact zz7 (W := W.drew) HP.out _)
  ·
   have a0 : decide ((n : Int) ≤ (k : Int)) = true := decide_eq_true (by omega)
   have a0' : decide (n ≤ k) = true := decide_eq_true (by omega)
   have HE2 : Hid (sumV (fn l) n ((pre ++ [(⟨k, hk⟩ : { x : Nat // x ∈ whoT mask })]).map Subtype.val) = sumV (fn l) n (pre.map Subtype.val)) := by
    show _ = _
    rw [List.map_append, List.map_cons, List.map_nil, z17 _ (show n ≤ k by omega)]
   have HNK : Hid (n ≤ k) := by show n ≤ k; omega
   clear hp hB hlen hkn
   gi_wp2
   refine ⟨KeepsOthers.refl _, ?_, HBW.out, rfl, pre.map Subtype.val, k, ?_, HNK.out⟩
   ·
    show _ = some (Obj.cells #[.int .u64 (sumV (fn l) n ((pre ++ [(⟨k, hk⟩ : { x : Nat // x ∈ whoT mask })]).map Subtype.val) : Int)] 27 (0, 0))
    rw [HE2.out]
    exact HP.out
   ·
    show ((pre ++ [(⟨k, hk⟩ : { x : Nat // x ∈ whoT mask })]).map Subtype.val) = _
    rw [List.map_append, List.map_cons, List.map_nil]
 case done =>
  rintro D ys W hD hys ⟨hp, hB⟩ hK
  have hX : Hid (sumV (fn l) n (ys.map Subtype.val) = z) := by show _ = z; rw [hys, HX1.out]
  rw [hX.out] at hp
  have c1 := (zaj hp).1
  have HBf := Lib.hid (HBw.out.trans hB.below)
  have HKD := Lib.hid hK
  have hDD : Hid (w.heap.size ≤ D) := by show _ ≤ _; have := HSZ.out; omega
  clear hp hB hK hys hD
  go_wp2_with fail
  exact zhj (v := .int .u64 z) HKD.out ⟨by simp [results, Tryz.results201, go_sem], rfl, zdc HKD.out HBf.out hDD.out⟩
 case stop =>
  rintro D c pre W hD hpre ⟨hp, hB, rfl, ys, x, hys, hx⟩ hK
  have hX : Hid (sumV (fn l) n (pre.map Subtype.val) = z) := by
   show _ = z
   rw [hys] at hpre ⊢
   rw [z17 _ hx, HX1.out]
   exact (ydl (z8j mask) hpre hx).symm
  rw [hX.out] at hp
  have c1 := (zaj hp).1
  have HBf := Lib.hid (HBw.out.trans hB.below)
  have HKD := Lib.hid hK
  have hDD : Hid (w.heap.size ≤ D) := by show _ ≤ _; have := HSZ.out; omega
  clear hp hB hK hys hD hpre hx
  gi_wp2
  go_wp2_with fail
  exact zhj (v := .int .u64 z) HKD.out ⟨by simp [results, Tryz.results201, go_sem], rfl, zdc HKD.out HBf.out hDD.out⟩
theorem ydg : ysp := fun v l m w h => by
 have k := h
 obtain ⟨p, cp, rfl, _⟩ := zar h
 cases e : mayB l
 ·
  have := z7z p _ cp l (m.toNat : Int) w k rfl e
  rwa [yj1 e]
 ·
  exact z14 p _ cp l m w k rfl e
theorem z70 : yej := fun v l w h => by
 have HC := Lib.hid (ydg v l allM w h)
 rw [show ((allM.toNat : Nat) : Int) = 18446744073709551615 from rfl] at HC
 obtain ⟨t, ht⟩ : ∃ t, t = totS l := ⟨_, rfl⟩
 rw [show ofS l allM = t from ht.symm] at HC
 rw [← ht]
 clear h ht
 go_enter Tryz.func202, Tryz.ntmps202
 go_wp2_with fail
 refine HC.out.mono ?_
 rintro e w1 ⟨rfl, g⟩
 go_wp2_with fail
 go_ret
 exact ⟨rfl, g⟩
end
def ykl : Prop := ∀ (v : Value) (l : List UInt64) (m : UInt64) (w : World), SlE Enum w v l → Calls Tryz.prog 179 #[v, .int .u64 (m.toNat : Int)] w fun e w' => e = .returned (.bool (yg6 l m)) ∧ Below w.heap.size w w'
@[go_sem] theorem ytr (a b c d : Int) (w : World) : (Op.equalIn 10000 239 (.agg #[.int .u64 a, .int .u64 b]) (.agg #[.int .u64 c, .int .u64 d])).run Tryz.prog w = .ok (a == c && b == d) w := by
 have u3 := Tryz.underlying27
 have a3 := Tryz.isAgg27
 have z3 := Tryz.sizeOf27
 rw [show (10000 : Nat) = 9999 + 1 from rfl, Op.equalIn]
 simp only [Sem.run_bind, run_underlying Tryz.underlying239, Result.andThen_ok]
 simp only [Std.Legacy.Range.forIn_eq_forIn_range', Std.Legacy.Range.size, Nat.sub_zero, Nat.add_sub_cancel, Nat.div_one, List.range'_succ, List.range'_zero, List.forIn_cons, List.forIn_nil]
 go_simp
 by_cases h1 : a = c <;> by_cases h2 : b = d <;> simp [h1, h2]
def Word (x : Int) : Prop := 0 ≤ x ∧ x < 18446744073709551616
def yg5 (a b : Int) : Bool := decide (2 * b ≤ 3 * a)
theorem ymv (a : Nat) (ha : a < 18446744073709551616) : bits .and .u64 (a : Int) 4294967295 = ((a % 4294967296 : Nat) : Int) := by
 have h := bits_and_u64_nat a 4294967295 ha (by omega)
 have e : a &&& 4294967295 = a % 4294967296 := Nat.and_two_pow_sub_one_eq_mod a 32
 rw [e] at h
 exact h
theorem divN (a : Nat) : (a : Int) / 4294967296 = ((a / 4294967296 : Nat) : Int) := by omega
theorem mulZ (a b : Nat) : (a : Int) * (b : Int) = ((a * b : Nat) : Int) := (Int.natCast_mul a b).symm
theorem addZ (a b : Nat) : (a : Int) + (b : Int) = ((a + b : Nat) : Int) := (Int.natCast_add a b).symm
theorem zzu (a : Nat) (ha : a < 18446744073709551616) : IntKind.u64.wrap (a : Int) = (a : Int) := by rw [IntKind.wrap_u64]; omega
theorem ytp (a : Nat) : IntKind.u64.wrap (a : Int) = ((a % 18446744073709551616 : Nat) : Int) := by rw [IntKind.wrap_u64]; omega
theorem ybr (x y : Nat) (hx : x < 18446744073709551616) (hy : y < 18446744073709551616) (w : World) :
  Calls Tryz.prog 212 #[.int .u64 x, .int .u64 y] w fun e w' => e = .returned (.tuple #[.int .u64 ((x * y / 18446744073709551616 : Nat) : Int), .int .u64 ((x * y % 18446744073709551616 : Nat) : Int)]) ∧ w = w' := by
 obtain ⟨bd, bt, bw, hhi⟩ := Lib.mul64_hi x y hx hy
 have ba := Lib.half_mul_le (a := x / 4294967296) (b := y / 4294967296) (by omega) (by omega)
 have bb := Lib.half_mul_le (a := x / 4294967296) (b := y % 4294967296) (by omega) (by omega)
 have bc := Lib.half_mul_le (a := x % 4294967296) (b := y / 4294967296) (by omega) (by omega)
 have ba' : x / 4294967296 * (y / 4294967296) < 18446744073709551616 := by omega
 have bb' : x / 4294967296 * (y % 4294967296) < 18446744073709551616 := by omega
 have bc' : x % 4294967296 * (y / 4294967296) < 18446744073709551616 := by omega
 have bh1 : x / 4294967296 * (y / 4294967296) + (x / 4294967296 * (y % 4294967296) + x % 4294967296 * (y % 4294967296) / 4294967296) / 4294967296 < 18446744073709551616 := by omega
 have bh : x / 4294967296 * (y / 4294967296) + (x / 4294967296 * (y % 4294967296) + x % 4294967296 * (y % 4294967296) / 4294967296) / 4294967296 + ((x / 4294967296 * (y % 4294967296) + x % 4294967296 * (y % 4294967296) / 4294967296) % 4294967296 + x % 4294967296 * (y / 4294967296)) / 4294967296 < 18446744073709551616 := by omega
 go_enter Tryz.func212, Tryz.ntmps212
 go_wp2
 simp only [ymv x hx, ymv y hy, divN, mulZ, addZ, zzu _ bd, zzu _ bb', zzu _ bt, ymv _ bt, zzu _ bc', zzu _ bw, zzu _ ba', zzu _ bh1, zzu _ bh, ytp (x * y)]
 rw [hhi]
 go_ret2
 exact ⟨rfl, rfl⟩
theorem yte (x y : Int) (hx : Word x) (hy : Word y) (w : World) :
  Calls Tryz.prog 212 #[.int .u64 x, .int .u64 y] w fun e w' => e = .returned (.tuple #[.int .u64 (x * y / 18446744073709551616), .int .u64 (x * y % 18446744073709551616)]) ∧ w = w' := by
 obtain ⟨hx0, hx1⟩ := hx
 obtain ⟨hy0, hy1⟩ := hy
 obtain ⟨X, rfl⟩ := Int.eq_ofNat_of_zero_le hx0
 obtain ⟨Y, rfl⟩ := Int.eq_ofNat_of_zero_le hy0
 have h := ybr X Y (by omega) (by omega) w
 rw [Int.natCast_ediv, Int.natCast_emod, Int.natCast_mul] at h
 exact h
theorem zo7 {a w : World} (h : Below a.heap.size a w) (o : Obj) : Below a.heap.size a (w.alloc o) := h.alloc h.size _
theorem zq6 (a b : Int) (ha : Word a) (hb : Word b) (w : World) :
  Calls Tryz.prog 208 #[.int .u64 a, .int .u64 b] w fun e w' => e = .returned (.agg #[.int .u64 (a * b / 18446744073709551616), .int .u64 (a * b % 18446744073709551616)]) ∧ Below w.heap.size w w' := by
 go_enter Tryz.func208, Tryz.ntmps208
 go_wp2_with (go_at_call 212; refine (yte _ _ ha hb _).mono ?_; rintro e w' ⟨rfl, rfl⟩)
 exact bodyPost_ret (v := .agg #[.int .u64 (a * b / 18446744073709551616), .int .u64 (a * b % 18446744073709551616)]) (by simp [results, Tryz.results208, go_sem]) rfl ⟨rfl, below1⟩
theorem z1d (ah al : Int) (w : World) :
  Calls Tryz.prog 207 #[.agg #[.int .u64 ah, .int .u64 al], .agg #[.int .u64 ah, .int .u64 al]] w fun e w' => e = .returned (.bool true) ∧ Below w.heap.size w w' := by
 go_enter Tryz.func207, Tryz.ntmps207
 go_wp2
 go_ret
 exact ⟨rfl, zo7 below1 _⟩
theorem z1a (ah al bh bl : Int) (h : bh < ah) (w : World) :
  Calls Tryz.prog 207 #[.agg #[.int .u64 ah, .int .u64 al], .agg #[.int .u64 bh, .int .u64 bl]] w fun e w' => e = .returned (.bool true) ∧ Below w.heap.size w w' := by
 have h1 : (ah == bh) = false := beq_eq_false_iff_ne.2 (by omega)
 go_enter Tryz.func207, Tryz.ntmps207
 go_wp2
 go_ret
 exact ⟨rfl, zo7 below1 _⟩
theorem z6t (ah al bh bl : Int) (h : ah < bh) (w : World) :
  Calls Tryz.prog 207 #[.agg #[.int .u64 ah, .int .u64 al], .agg #[.int .u64 bh, .int .u64 bl]] w fun e w' => e = .returned (.bool false) ∧ Below w.heap.size w w' := by
 have h1 : (ah == bh) = false := beq_eq_false_iff_ne.2 (by omega)
 have h2 : ¬ bh < ah := by omega
 go_enter Tryz.func207, Tryz.ntmps207
 go_wp2
 go_ret
 exact ⟨rfl, zo7 below1 _⟩
theorem z1c (ah al bl : Int) (h : bl < al) (w : World) :
  Calls Tryz.prog 207 #[.agg #[.int .u64 ah, .int .u64 al], .agg #[.int .u64 ah, .int .u64 bl]] w fun e w' => e = .returned (.bool true) ∧ Below w.heap.size w w' := by
 have h1 : (al == bl) = false := beq_eq_false_iff_ne.2 (by omega)
 go_enter Tryz.func207, Tryz.ntmps207
 go_wp2
 go_ret
 exact ⟨rfl, zo7 below1 _⟩
theorem z1b (ah al bl : Int) (h : al < bl) (w : World) :
  Calls Tryz.prog 207 #[.agg #[.int .u64 ah, .int .u64 al], .agg #[.int .u64 ah, .int .u64 bl]] w fun e w' => e = .returned (.bool false) ∧ Below w.heap.size w w' := by
 have h1 : (al == bl) = false := beq_eq_false_iff_ne.2 (by omega)
 have h2 : ¬ bl < al := by omega
 go_enter Tryz.func207, Tryz.ntmps207
 go_wp2
 go_ret
 exact ⟨rfl, zo7 below1 _⟩
def zvm (ah al bh bl : Int) : Bool := decide (bh < ah ∨ bh = ah ∧ bl ≤ al)
theorem z6s (ah al bh bl : Int) (w : World) :
  Calls Tryz.prog 207 #[.agg #[.int .u64 ah, .int .u64 al], .agg #[.int .u64 bh, .int .u64 bl]] w fun e w' => e = .returned (.bool (zvm ah al bh bl)) ∧ Below w.heap.size w w' := by
 unfold zvm
 by_cases h1 : bh < ah
 ·
  rw [decide_eq_true (p := bh < ah ∨ bh = ah ∧ bl ≤ al) (by omega)]
  exact z1a _ _ _ _ h1 w
 by_cases h2 : ah < bh
 ·
  rw [decide_eq_false (p := bh < ah ∨ bh = ah ∧ bl ≤ al) (by omega)]
  exact z6t _ _ _ _ h2 w
 obtain rfl : ah = bh := by omega
 by_cases h3 : bl < al
 ·
  rw [decide_eq_true (p := ah < ah ∨ ah = ah ∧ bl ≤ al) (by omega)]
  exact z1c _ _ _ h3 w
 by_cases h4 : al < bl
 ·
  rw [decide_eq_false (p := ah < ah ∨ ah = ah ∧ bl ≤ al) (by omega)]
  exact z1b _ _ _ h4 w
 obtain rfl : al = bl := by omega
 rw [decide_eq_true (p := ah < ah ∨ ah = ah ∧ al ≤ al) (by omega)]
 exact z1d _ _ w
theorem zo1 (n : Nat) (h : n < 18446744073709551616) : Word (n : Int) := ⟨by omega, by omega⟩
theorem zyl (x y : Int) : zvm (x / 18446744073709551616) (x % 18446744073709551616) (y / 18446744073709551616) (y % 18446744073709551616) = decide (y ≤ x) := by
 unfold zvm
 by_cases h : y ≤ x
 ·
  rw [decide_eq_true h]; exact decide_eq_true (by omega)
 ·
  rw [decide_eq_false h]; exact decide_eq_false (by omega)
theorem yg7 (a b : Int) (ha : Word a) (hb : Word b) (w : World) :
  Calls Tryz.prog 200 #[.int .u64 a, .int .u64 b] w fun e w' => e = .returned (.bool (yg5 a b)) ∧ Below w.heap.size w w' := by
 have c3 := fun w => zq6 3 a (zo1 3 (by decide)) ha w
 have c2 := fun w => zq6 2 b (zo1 2 (by decide)) hb w
 have hn := zyl (3 * a) (2 * b)
 rw [show yg5 a b = decide (2 * b ≤ 3 * a) from rfl, ← hn]
 clear hn ha hb
 generalize 3 * a / 18446744073709551616 = p at *
 generalize 3 * a % 18446744073709551616 = q at *
 generalize 2 * b / 18446744073709551616 = r at *
 generalize 2 * b % 18446744073709551616 = s at *
 go_enter Tryz.func200, Tryz.ntmps200
 go_wp2_with fail
 refine (c3 _).mono ?_
 rintro e w1 ⟨rfl, h1⟩
 go_wp2_with fail
 refine (c2 _).mono ?_
 rintro e w2 ⟨rfl, h2⟩
 go_wp2_with fail
 refine (z6s _ _ _ _ _).mono ?_
 rintro e w3 ⟨rfl, h3⟩
 go_wp2_with fail
 go_ret
 exact ⟨rfl, zac (zac h1 h2) h3⟩
theorem ym5 (a b : Nat) (ha : a < 18446744073709551616) (hb : b < 18446744073709551616) (w : World) :
  Calls Tryz.prog 200 #[.int .u64 (a : Int), .int .u64 (b : Int)] w fun e w' => e = .returned (.bool (z6o a b)) ∧ Below w.heap.size w w' := by
 have := yg7 a b (zo1 a ha) (zo1 b hb) w
 rwa [show yg5 a b = z6o a b by unfold yg5 z6o; rw [Bool.eq_iff_iff, decide_eq_true_iff, decide_eq_true_iff]; omega] at this
theorem ydf : ykl := fun v l mask w h => by
 have HM := Lib.hid (zow v l w h)
 have HO := Lib.hid (fun W (g : Below w.heap.size w W) => ydg v l mask W (zad g h))
 have HT := Lib.hid (fun W (g : Below w.heap.size w W) => z70 v l W (zad g h))
 have HX := Lib.hid (fun W => ym5 (ofS l mask) (totS l) (by have : ofS l mask ≤ 8796093022208 := yj0; omega) (by have : totS l ≤ 8796093022208 := yj0; omega) W)
 obtain ⟨m, hm⟩ : ∃ m, m = (mask.toNat : Int) := ⟨_, rfl⟩
 rw [← hm] at HO
 rw [← hm]
 have he : yg6 l mask = (mayB l && z6o (ofS l mask) (totS l)) := rfl
 rw [he]
 generalize z6o (ofS l mask) (totS l) = r at *
 generalize ofS l mask = o at *
 generalize totS l = t at *
 generalize mayB l = b at *
 clear h hm he
 go_enter Tryz.func179, Tryz.ntmps179
 go_wp2_with fail
 refine HM.out.mono ?_
 rintro e w1 ⟨rfl, g1⟩
 have G1 := Lib.hid g1
 clear g1
 cases b
 ·
  go_wp2_with fail
  go_ret
  exact ⟨by cases r <;> rfl, G1.out⟩
 go_wp2_with fail
 refine (HO.out _ G1.out).mono ?_
 rintro e w2 ⟨rfl, g⟩
 have G2 := Lib.hid (zac G1.out g)
 clear g
 go_wp2_with fail
 refine (HT.out _ G2.out).mono ?_
 rintro e w3 ⟨rfl, g⟩
 have G3 := Lib.hid (zac G2.out g)
 clear g
 go_wp2_with fail
 refine (HX.out _).mono ?_
 rintro e w4 ⟨rfl, g⟩
 have G4 := Lib.hid (zac G3.out g)
 clear g
 cases r <;> (
  go_wp2_with fail
  go_ret
  exact ⟨rfl, G4.out⟩)
end Go.Proofs.YtkalofboioffiaaGreat
