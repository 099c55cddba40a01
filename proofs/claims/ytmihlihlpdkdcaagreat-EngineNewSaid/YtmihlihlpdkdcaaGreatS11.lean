import Derived.Test.YtmihlihlpdkdcaaGreatS06
import Derived.Test.YtmihlihlpdkdcaaGreatS03
import Derived.Test.YtmihlihlpdkdcaaGreatS10
import Derived.Test.YtmihlihlpdkdcaaGreatS08
import Derived.Deep.Cut
import Derived.Test.YtmihlihlpdkdcaaGreatS09
namespace Go.Proofs.YtmihlihlpdkdcaaGreat
open Go.RowKit
set_option maxRecDepth 200000
set_option maxHeartbeats 64000000
theorem z7y (p : Option Addr) (n cp : Nat) (l : List UInt64) (w : World) (h : SlE Enum w (.slice p n cp) l) (hl : l.length = n) (hn : n ≤ 1152921504606846976) :
  Calls Tryz.prog 35 #[.slice p n cp] w fun e w' => e = .returned (.bool (mayB l)) ∧ Below w.heap.size w w' := by
 have HS := Lib.hid h
 have HL := Lib.hid hl
 have HN := Lib.hid hn
 obtain ⟨r, hr⟩ : ∃ r, r = mayB l := ⟨_, rfl⟩
 rw [← hr]
 have HR := Lib.hid hr
 clear h hl hn hr
 go_enter Tryz.func35, Tryz.ntmps35
 go_wp2_with fail
 go_loopw [3] (fun i wr => ∃ j : Nat, j ≤ n ∧ i = .int .i64 (j : Int) ∧ (∀ x, x < j → fn l x ≤ 1099511627776) ∧ wr = w) (fun i _ => n - (intOf i).toNat)
 case atStart => exact ⟨0, Nat.zero_le _, rfl, fun x hx => absurd hx (Nat.not_lt_zero _), rfl⟩
 case round =>
  obtain ⟨j, hj, rfl, hx, rfl⟩ := hrel
  have HX := Lib.hid hx
  clear hx
  by_cases hlt : j < n
  ·
   have i0 : (0 : Int) ≤ (j : Int) := by omega
   have i1 : (j : Int) < (n : Int) := by omega
   have u1 : (j : Int) + 1 < 1152921504606846980 := by have := HN.out; omega
   obtain ⟨b1, o1, rfl, q1, x1⟩ := zco HS.out (by have := HL.out; omega)
   have y1 := zb1 x1 (i := j) (by have := HL.out; omega)
   have HLT := Lib.hid hlt
   obtain ⟨y, hy⟩ : ∃ y, y = fn l j := ⟨_, rfl⟩
   rw [← hy] at y1
   have HY := Lib.hid hy
   clear x1 q1 hlt hy
   by_cases hb : 1099511627776 < y
   ·
    have t0 : decide ((1099511627776 : Int) < (y : Int)) = true := decide_eq_true (by omega)
    have t0' : decide (1099511627776 < y) = true := decide_eq_true hb
    have hF : Hid (r = false) := by show r = false; rw [HR.out, ← Bool.not_eq_true]; intro e; have := (zcy.1 e).2.2 j (by rw [HL.out]; exact HLT.out); rw [← HY.out] at this; omega
    clear hb
    go_wp2_with fail
    go_ret
    exact ⟨by rw [hF.out]; first | done | rfl, Below.refl _ _⟩
   ·
    have t0 : decide ((1099511627776 : Int) < (y : Int)) = false := decide_eq_false (by omega)
    have t0' : decide (1099511627776 < y) = false := decide_eq_false hb
    have HB : Hid (y ≤ 1099511627776) := by show _ ≤ _; omega
    clear hb
    go_wp2_with fail
    go_roundw
    case rel => exact ⟨j + 1, HLT.out, by go_num, (fun x hx => by
     rcases Nat.lt_succ_iff_lt_or_eq.1 hx with h | rfl
     ·
      exact HX.out x h
     ·
      rw [← HY.out]; exact HB.out), by first | rfl | trivial⟩
    case measure => simp [intOf]; have := HLT.out; omega
  ·
   obtain rfl : j = n := by omega
   clear hlt
   by_cases h1 : 1 ≤ j
   ·
    have t1 : decide ((1 : Int) ≤ (j : Int)) = true := decide_eq_true (by omega)
    have t1' : decide (1 ≤ j) = true := decide_eq_true h1
    by_cases h8 : j ≤ 8
    ·
     have t2 : decide ((j : Int) ≤ 8) = true := decide_eq_true (by omega)
     have t2' : decide (j ≤ 8) = true := decide_eq_true h8
     have hF : Hid (r = true) := by show r = true; rw [HR.out]; exact zcy.2 ⟨by rw [HL.out]; exact h1, by rw [HL.out]; exact h8, fun i hi => HX.out i (by rw [← HL.out]; exact hi)⟩
     clear h1 h8
     go_wp2_with fail
     go_ret
     exact ⟨by rw [hF.out]; first | done | rfl, Below.refl _ _⟩
    ·
     have t2 : decide ((j : Int) ≤ 8) = false := decide_eq_false (by omega)
     have t2' : decide (j ≤ 8) = false := decide_eq_false h8
     have hF : Hid (r = false) := by show r = false; rw [HR.out, ← Bool.not_eq_true]; intro e; have := (zcy.1 e).2.1; rw [HL.out] at this; omega
     clear h1 h8
     go_wp2_with fail
     go_ret
     exact ⟨by rw [hF.out]; first | done | rfl, Below.refl _ _⟩
   ·
    have t1 : decide ((1 : Int) ≤ (j : Int)) = false := decide_eq_false (by omega)
    have t1' : decide (1 ≤ j) = false := decide_eq_false h1
    have hF : Hid (r = false) := by show r = false; rw [HR.out, ← Bool.not_eq_true]; intro e; have := (zcy.1 e).1; rw [HL.out] at this; omega
    clear h1
    go_wp2_with fail
    go_ret
    exact ⟨by rw [hF.out]; first | done | rfl, Below.refl _ _⟩
theorem yfz (v : Value) (l : List UInt64) (w : World) (h : SlE Enum w v l) (hn : l.length ≤ 1152921504606846976) :
  Calls Tryz.prog 35 #[v] w fun e w' => e = .returned (.bool (mayB l)) ∧ Below w.heap.size w w' := by
 have k := h
 obtain ⟨p, cp, rfl, _⟩ := zaf h
 exact z7y p _ cp l w k rfl hn
def yjx (L : List Nd) (ok : Bool) (w : World) (e : Ending) (w' : World) : Prop := ∃ s : SlV, e = .returned (.tuple #[.agg (tr ⟨s⟩), .bool ok]) ∧ SlE Ene w' (sv s) L ∧ Below w.heap.size w w'
def newN (r : Rt) (q : UInt64) : Nd := ⟨r, -1, q, 0⟩
def zvn (q : UInt64) : Bool := decide (q.toNat ≤ 1099511627776)
def newL (r : Rt) (q : UInt64) : List Nd := if zvn q = true then [newN r q] else []
theorem ypk (r : Rt) (q : UInt64) (w : World) :
  Calls Tryz.prog 36 #[.agg (rc r), .int .u64 (q.toNat : Int)] w (yjx (newL r q) (zvn q) w) := by
 by_cases hq : q.toNat ≤ 1099511627776
 ·
  have e : zvn q = true := decide_eq_true hq
  have HL : Hid (newL r q = [newN r q]) := by unfold newL; rw [e, if_pos rfl]; exact Lib.hid rfl
  rw [e]
  have t1 : decide ((1099511627776 : Int) < (q.toNat : Int)) = false := by rw [decide_eq_false_iff_not]; omega
  have t1' : decide (1099511627776 < q.toNat) = false := by rw [decide_eq_false_iff_not]; omega
  clear hq e
  go_enter Tryz.func36, Tryz.ntmps36
  go_wp2_with fail
  exact bodyPost_ret (v := .tuple #[.agg (tr ⟨⟨some ⟨w.heap.size + 1 + 1, 0, none⟩, 1, 1⟩⟩), .bool true]) (zaj Tryz.isAgg28 Tryz.sizeOf28 _ 4 5 rfl _ _ _ _ _ rfl rfl (by go_simp)) rfl ⟨⟨some ⟨w.heap.size + 1 + 1, 0, none⟩, 1, 1⟩, rfl, by rw [HL.out]; exact ze7 _ [newN r q] 1 _ _ _ rfl (by simp) (by simp [zam, Ene, zkg, newN, zne]), zad (zad below1 below1) below1⟩
 ·
  have e : zvn q = false := decide_eq_false hq
  have HL : Hid (newL r q = []) := by unfold newL; rw [e, if_neg Bool.false_ne_true]; exact Lib.hid rfl
  rw [e]
  have t1 : decide ((1099511627776 : Int) < (q.toNat : Int)) = true := by rw [decide_eq_true_iff]; omega
  have t1' : decide (1099511627776 < q.toNat) = true := by rw [decide_eq_true_iff]; omega
  clear hq e
  go_enter Tryz.func36, Tryz.ntmps36
  go_wp2_with fail
  exact bodyPost_ret (v := .tuple #[.agg (tr ⟨⟨none, 0, 0⟩⟩), .bool false]) (zaj Tryz.isAgg28 Tryz.sizeOf28 _ 4 5 rfl _ _ _ _ _ rfl rfl (by go_simp; rfl)) rfl ⟨⟨none, 0, 0⟩, rfl, by rw [HL.out]; exact zbu _ _ _ _, zad below1 below1⟩
theorem z47 : ∀ n, n ≤ 8 → (madeCells (Value.agg (lt zlt)).cells (n * 34)).toList = zam Elt (List.replicate n zlt) := by
 intro n hn
 have : n = 0 ∨ n = 1 ∨ n = 2 ∨ n = 3 ∨ n = 4 ∨ n = 5 ∨ n = 6 ∨ n = 7 ∨ n = 8 := by omega
 rcases this with rfl | rfl | rfl | rfl | rfl | rfl | rfl | rfl | rfl <;> (refine Eq.symm ?_; kernel_rfl)
theorem yib (n : Int) (w : World) :
  Calls Tryz.prog 37 #[.int .i64 n] w (VoOk (newV n) (zfb n) w) := by
 by_cases hn : 1 ≤ n ∧ n ≤ 8
 ·
  obtain ⟨n, rfl⟩ : ∃ n' : Nat, n = n' := ⟨n.toNat, by omega⟩
  have e : zfb (n : Int) = true := decide_eq_true hn
  have HV : Hid (newV (n : Int) = ⟨List.replicate n zlt, 0⟩) := by unfold newV; rw [e, if_pos rfl]; exact Lib.hid rfl
  rw [e]
  have t0 : decide ((n : Int) < 1) = false := by rw [decide_eq_false_iff_not]; omega
  have t1 : decide ((8 : Int) < (n : Int)) = false := by rw [decide_eq_false_iff_not]; omega
  have t1' : decide (8 < n) = false := by rw [decide_eq_false_iff_not]; omega
  have t0' : decide (n < 1) = false := by rw [decide_eq_false_iff_not]; omega
  have t0'' : decide (n = 0) = false := by rw [decide_eq_false_iff_not]; omega
  have HN : Hid (n ≤ 8) := by show n ≤ 8; omega
  have n0 : (0 : Int) ≤ (n : Int) := by omega
  obtain ⟨W0, hW0⟩ : ∃ W0, W0 = w.alloc (.cells (vo zvo) 32) := ⟨_, rfl⟩
  have HB : Hid (Below w.heap.size w W0) := by rw [hW0]; exact below1
  have M0 : Hid (W0.heap[w.heap.size]? = some (.cells (vo zvo) 32 (0, 0))) := by rw [hW0]; exact heap_alloc_last w _
  have HW := Lib.hid hW0
  obtain ⟨i, hi, hz0, hz1, hz2⟩ := info_parts zzy
  clear hn e hW0
  go_enter Tryz.func37, Tryz.ntmps37
  go_upto_region 1 with fail
  rw [← HW.out]
  go_wp2_with (at_make; refine wpList_make_full _ rfl _ _ 29 rfl W0.heap.size 108 i _ 34 Tryz.underlying29 hi hz0 hz1 .i64 .i64 _ _ n rfl rfl rfl rfl (by rw [hz2]; have := HN.out; omega) (by unfold maxLen; have := HN.out; omega) (Nat.le_refl _) ?_; intro wz hown hgrow; have BZ : Hid (Below W0.heap.size W0 wz) := (Below.refl _ _).grown hgrow (Nat.le_refl _) (fun k hk => by cases hk); have OZ := Lib.hid hown; have MZ := Lib.hid (zab BZ.out M0.out); have y1 := zay MZ.out (zas _); clear hown hgrow)
  have hS : SlE Elt wz (.slice (some ⟨W0.heap.size, 0, none⟩) n n) (List.replicate n zlt) := by
   have h := OZ.out
   rw [z47 n HN.out] at h
   have : OwnE Elt wz W0.heap.size (.slice (some ⟨W0.heap.size, 0, none⟩) n n) (List.replicate n zlt) := by
    unfold OwnE
    rw [List.length_replicate]
    exact h
   exact zai this
  have hF := zbs MZ.out (r := vo ⟨⟨some ⟨W0.heap.size, 0, none⟩, n, n⟩, 0⟩) (by rw [zas, zas])
  have hne : w.heap.size ≠ W0.heap.size := by have := (Array.getElem?_eq_some_iff.1 M0.out).1; omega
  refine bodyPost_ret (v := .tuple #[.agg (vo ⟨⟨some ⟨W0.heap.size, 0, none⟩, n, n⟩, 0⟩), .bool true]) (zaj Tryz.isAgg32 Tryz.sizeOf32 _ 2 3 rfl _ _ _ _ _ rfl rfl (zae hF (zas _))) rfl ⟨⟨some ⟨W0.heap.size, 0, none⟩, n, n⟩, by rw [HV.out], by rw [HV.out]; exact zdm hS (by rw [zjj]; exact Nat.le_refl _) (fun b _ hb => zcp (by have hb' : W0.heap.size = b := Option.some.inj hb; omega)), zao (zad HB.out BZ.out) (Nat.le_refl _)⟩
 ·
  have e : zfb n = false := decide_eq_false hn
  have HV : Hid (newV n = ⟨[], 0⟩) := by unfold newV; rw [e, if_neg Bool.false_ne_true]; exact Lib.hid rfl
  rw [e]
  by_cases h0 : n < 1
  ·
   have t0 : decide (n < 1) = true := decide_eq_true h0
   clear hn e h0
   go_enter Tryz.func37, Tryz.ntmps37
   go_wp2_with fail
   exact bodyPost_ret (v := .tuple #[.agg (vo zvo), .bool false]) (zaj Tryz.isAgg32 Tryz.sizeOf32 _ 2 3 rfl _ _ _ _ _ rfl rfl (by go_simp)) rfl ⟨⟨none, 0, 0⟩, by rw [HV.out]; rfl, by rw [HV.out]; exact zbu _ _ _ _, below1⟩
  ·
   have t0 : decide (n < 1) = false := decide_eq_false h0
   have t1 : decide (8 < n) = true := decide_eq_true (by omega)
   clear hn e h0
   go_enter Tryz.func37, Tryz.ntmps37
   go_wp2_with fail
   exact bodyPost_ret (v := .tuple #[.agg (vo zvo), .bool false]) (zaj Tryz.isAgg32 Tryz.sizeOf32 _ 2 3 rfl _ _ _ _ _ rfl rfl (by go_simp)) rfl ⟨⟨none, 0, 0⟩, by rw [HV.out]; rfl, by rw [HV.out]; exact zbu _ _ _ _, below1⟩
section
theorem zpm : zh3 Tryz.prog Enum 24 8 := ⟨Tryz.underlying24, num 0, zo7, rfl⟩
@[local go_sem] theorem yu0 (r : Rt) : ({ epoch := zcc.epoch, root := r } : Ck) = ⟨0, r⟩ := rfl
theorem z65 (r : Rt) (pb : Option Addr) (nb cb : Nat) (bal : List UInt64) (w : World) (h : SlE Enum w (.slice pb nb cb) bal) (hl : bal.length = nb) (hn : nb ≤ 1000) :
  Calls Tryz.prog 12 #[.agg (rc r), .slice pb nb cb] w (EgOk (if mayB bal = true then newG r bal else zor) (mayB bal) w) := by
 obtain ⟨W0, hW0⟩ : ∃ W0, W0 = (w.alloc (.cells (rc r) 23)).alloc (.cells (en zen) 39) := ⟨_, rfl⟩
 obtain ⟨hB, q0, q1, hz⟩ := zdz w _ _ _ _ W0 hW0
 have MR : Hid (W0.heap[w.heap.size]? = some (.cells (rc r) 23 (0, 0))) := q0
 have ME : Hid (W0.heap[w.heap.size + 1]? = some (.cells (en zen) 39 (0, 0))) := q1
 have KB := Lib.hid (zac hB h)
 have A0 := Lib.hid hB
 have HW := Lib.hid hW0
 have HL := Lib.hid hl
 have HN := Lib.hid hn
 have HMy := Lib.hid (fun W hh => yfz (.slice pb nb cb) bal W hh (by omega))
 obtain ⟨may, hmay⟩ : ∃ m, m = mayB bal := ⟨_, rfl⟩
 rw [← hmay] at HMy ⊢
 obtain ⟨GE, hGr⟩ : ∃ G, G = (if may = true then newG r bal else zor) := ⟨_, rfl⟩
 rw [← hGr]
 have HG0 : Hid (may = false → GE = zor) := fun e => by rw [hGr, e]; rfl
 have HG1 : Hid (may = true → GE = newG r bal) := fun e => by rw [hGr, e]; rfl
 clear hW0 hB q0 q1 hz h hl hn hmay hGr
 go_enter Tryz.func12, Tryz.ntmps12
 go_upto_region 1 with fail
 rw [← HW.out]
 go_wp2_with fail
 refine (HMy.out _ KB.out).mono ?_
 rintro e w1 ⟨rfl, g⟩
 replace MR := Lib.hid (zab g MR.out)
 replace ME := Lib.hid (zab g ME.out)
 replace KB := Lib.hid (zac g KB.out)
 replace A0 := Lib.hid (zad A0.out g)
 clear g HMy
 cases may
 ·
  have HG := Lib.hid (HG0.out rfl)
  clear HG0 HG1
  have ye := zay ME.out (zak _)
  go_wp2_with fail
  exact bodyPost_ret (v := .tuple #[.agg (en zen), .bool false]) (zaj Tryz.isAgg39 Tryz.sizeOf39 _ 4 5 rfl _ _ _ _ _ rfl rfl (zae (by rw [zbe ME.out (by rw [zak]; decide)]; congr 2; exact zek rfl) (zak _))) rfl ⟨zen, rfl, by rw [HG.out]; exact zxm _, zao A0.out (by omega)⟩
 ·
  have HG := Lib.hid (HG1.out rfl)
  clear HG0 HG1
  have zr := zae MR.out (zal _)
  go_wp2_with fail
  refine (ypk r 0 _).mono ?_
  rintro e w2 ⟨s1, rfl, h1, g⟩
  rw [show newL r 0 = [⟨r, -1, 0, 0⟩] by unfold newL; rw [if_pos (show zvn 0 = true from rfl)]; rfl] at h1
  have gg := zad g (below1 (o := .cells (tr ⟨s1⟩) 28))
  replace MR := Lib.hid (zab gg MR.out)
  replace ME := Lib.hid (zab gg ME.out)
  replace KB := Lib.hid (zac gg KB.out)
  replace A0 := Lib.hid (zad A0.out gg)
  have MT : Hid ((w2.alloc (.cells (tr ⟨s1⟩) 28)).heap[w2.heap.size]? = some (.cells (tr ⟨s1⟩) 28 (0, 0))) := heap_alloc_last w2 _
  have K1 := Lib.hid (zac (below1 (o := .cells (tr ⟨s1⟩) 28)) h1)
  clear g gg h1 zr
  go_wp2_with fail
  have H12 := Lib.hid (yib (bal.length : Int))
  rw [HL.out] at H12
  refine (H12.out _).mono ?_
  rintro e w3 ⟨s2, rfl, h2, g⟩
  rw [← HL.out] at h2
  have gg := zad g (below1 (o := .cells (vo ⟨s2, (newV (nb : Int)).out⟩) 32))
  replace MR := Lib.hid (zab gg MR.out)
  replace ME := Lib.hid (zab gg ME.out)
  replace KB := Lib.hid (zac gg KB.out)
  replace A0 := Lib.hid (zad A0.out gg)
  replace MT := Lib.hid (zab gg MT.out)
  replace K1 := Lib.hid (zac gg K1.out)
  have MV : Hid ((w3.alloc (.cells (vo ⟨s2, (newV (nb : Int)).out⟩) 32)).heap[w3.heap.size]? = some (.cells (vo ⟨s2, (newV (nb : Int)).out⟩) 32 (0, 0))) := heap_alloc_last w3 _
  have K2 := Lib.hid (zac (below1 (o := .cells (vo ⟨s2, (newV (nb : Int)).out⟩) 32)) h2)
  clear g gg h2 H12
  have hz3 : (w3.alloc (.cells (vo ⟨s2, (newV (nb : Int)).out⟩) 32)).heap.size = w3.heap.size + 1 := by simp
  have zr := zae MR.out (zal _)
  go_upto_region 7 with fail
  generalize w3.alloc (.cells (vo ⟨s2, (newV (nb : Int)).out⟩) 32) = w4 at *
  obtain ⟨W7, hW7⟩ : ∃ W, W = w4.alloc (.cells (cc ⟨0, r⟩) 37) := ⟨_, rfl⟩
  have g7 : Below w4.heap.size w4 W7 := by rw [hW7]; exact below1
  have MC : Hid (W7.heap[w3.heap.size + 1]? = some (.cells (cc ⟨0, r⟩) 37 (0, 0))) := by show _ = _; rw [hW7, ← hz3]; exact heap_alloc_last w4 _
  replace ME := Lib.hid (zab g7 ME.out)
  replace KB := Lib.hid (zac g7 KB.out)
  replace A0 := Lib.hid (zad A0.out g7)
  replace MT := Lib.hid (zab g7 MT.out)
  replace K1 := Lib.hid (zac g7 K1.out)
  replace MV := Lib.hid (zab g7 MV.out)
  replace K2 := Lib.hid (zac g7 K2.out)
  have HLt : Hid (w.heap.size + 1 < W7.heap.size) := (Array.getElem?_eq_some_iff.1 ME.out).1
  rw [← hW7]
  clear hW7 g7 zr hz3 MR
  have zt := (zaz MT.out).2.1
  have zv := (zba MV.out).2.2.1
  have zc := zae MC.out (zaw _)
  have hwB : w.heap.size + 1 ≤ W7.drew.heap.size := Nat.le_of_lt HLt.out
  have Q0 := fun p : Wd W7.drew => zd8 zt (by decide) p
  have Q1 := fun p : Wd W7.drew => zd8 zv (by decide) p
  have Q2 := fun p : Wd W7.drew => zd8 zc (by decide) p
  clear zt zv zc
  refine zhq (w.heap.size + 1) [0, 3, 5, 7] [2, 4, 6, 9] (by kernel_rfl) ?_
  refine GX.take1 0 rfl rfl rfl (by kernel_rfl) (by kernel_rfl) (by kernel_rfl) rfl hwB ?_
  (first | go_big_quiet_step (fail) | quiet_step (fail)); refine wpQuiet_nil ?_
  refine GX.take2 1 rfl rfl rfl (by kernel_rfl) (by kernel_rfl) (by kernel_rfl) rfl hwB ?_
  (first | go_big_quiet_step (fail) | quiet_step (fail)); refine wpQuiet_nil ?_
  refine GX.take1 3 rfl rfl rfl (by kernel_rfl) (by kernel_rfl) (by kernel_rfl) rfl hwB ?_
  (first | go_big_quiet_step (fail) | quiet_step (fail)); refine wpQuiet_nil ?_
  refine GX.take1 5 rfl rfl rfl (by kernel_rfl) (by kernel_rfl) (by kernel_rfl) rfl hwB ?_
  (first | go_big_quiet_step (fail) | quiet_step (fail)); refine wpQuiet_nil ?_
  refine GX.take1 7 rfl rfl rfl (by kernel_rfl) (by kernel_rfl) (by kernel_rfl) rfl hwB ?_
  (first | go_big_quiet_step (fail) | quiet_step (fail)); refine wpQuiet_nil ?_
  have D0 : Below W7.heap.size W7 W7.drew := zar (Below.refl _ _) 1
  refine GX.branch3 2 4 6 (by kernel_rfl) ?o2 ?o4 ?o6
  case' o2 =>
   refine zhb zpm rfl rfl rfl (.const (.slice none 0 0)) (.tmp 31) rfl W7.drew.heap.size _ [] rfl (zbg _ _ _) _ bal rfl (zac D0 KB.out) (by have := HL.out; have := HN.out; simp [maxLen]; omega) (by have := HL.out; have := HN.out; simp; omega) (Nat.le_refl _) (fun w' hb => zbm hb) ?_
   intro va xa oa gr
   simp only [Act.put, List.setIfInBounds_toArray, List.set_cons_zero, List.set_cons_succ]
   rw [List.nil_append] at oa
   obtain ⟨⟨pa, na, ca⟩, rfl⟩ : ∃ s : SlV, va = sv s := by obtain ⟨p, c, rfl, _⟩ := zaf (zai oa); exact ⟨⟨p, _, c⟩, (zav _ _ _).symm⟩
   rw [zav] at oa gr ⊢
   have la : w.heap.size + 1 < W7.drew.heap.size := Nat.lt_of_lt_of_le HLt.out D0.size
   have ea : Value.ownBlock (.slice pa na ca) ≠ some (w.heap.size + 1) := zgp oa la
   have ga : Below W7.drew.heap.size W7.drew xa := (show Gr W7.drew (.slice none 0 0) xa (.slice pa na ca) from gr).nil
   have ka := zai oa
   clear oa gr la
   have Da := zad D0 ga
   clear ga
   refine GX.branch2 4 6 (by kernel_rfl) ?o2_4 ?o2_6
   case' o2_4 =>
    refine zby rfl rfl rfl (.slice (some ⟨xa.heap.size, 0, none⟩) 1 1) (xa.alloc (.cells #[.int .u64 0] 30)) (by go_simp) (zbm below1) ?_
    simp only [Act.put, List.setIfInBounds_toArray, List.set_cons_zero, List.set_cons_succ]
    have kb : SlE Enum (xa.alloc (.cells #[.int .u64 0] 30)) (.slice (some ⟨xa.heap.size, 0, none⟩) 1 1) [0] := zet xa (v := 0) (by decide) _ rfl
    have eb : Value.ownBlock (.slice (some ⟨xa.heap.size, 0, none⟩) 1 1) ≠ some (w.heap.size + 1) := za9 (by have := Nat.lt_of_lt_of_le HLt.out Da.size; omega)
    have gb : Below xa.heap.size xa (xa.alloc (.cells #[.int .u64 0] 30)) := below1
    generalize xa.alloc (.cells #[.int .u64 0] 30) = xb at *
    obtain ⟨Tb, hTb⟩ : ∃ T, T = xa.heap.size := ⟨_, rfl⟩
    rw [← hTb] at kb eb ⊢
    clear hTb
    replace ka := zac gb ka
    have Db := zad Da gb
    clear gb
    refine GX.branch1 6 (by kernel_rfl) ?_
    refine zby rfl rfl rfl (.slice (some ⟨xb.heap.size, 0, none⟩) 1 1) (xb.alloc (.cells (cc ⟨0, r⟩) 37)) (by go_simp) (zbm below1) ?_
    simp only [Act.put, List.setIfInBounds_toArray, List.set_cons_zero, List.set_cons_succ]
    have kc : SlE Ecc (xb.alloc (.cells (cc ⟨0, r⟩) 37)) (.slice (some ⟨xb.heap.size, 0, none⟩) 1 1) [⟨0, r⟩] := ze8 xb ⟨0, r⟩ _ rfl
    have ec : Value.ownBlock (.slice (some ⟨xb.heap.size, 0, none⟩) 1 1) ≠ some (w.heap.size + 1) := za9 (by have := Nat.lt_of_lt_of_le HLt.out Db.size; omega)
    have gc : Below xb.heap.size xb (xb.alloc (.cells (cc ⟨0, r⟩) 37)) := below1
    generalize xb.alloc (.cells (cc ⟨0, r⟩) 37) = xc at *
    obtain ⟨Tc, hTc⟩ : ∃ T, T = xb.heap.size := ⟨_, rfl⟩
    rw [← hTc] at kc ec ⊢
    clear hTc
    replace ka := zac gc ka
    replace kb := zac gc kb
    have Dc := zad Db gc
    clear gc
    obtain ⟨xz, hxz⟩ : ∃ X, X = xc := ⟨_, rfl⟩
    rw [← hxz]
    have Dz : Below W7.heap.size W7 xz := by rw [hxz]; exact Dc
    rw [← hxz] at ka
    rw [← hxz] at kb
    rw [← hxz] at kc
    clear hxz Da Db Dc
   case' o2_6 =>
    refine zby rfl rfl rfl (.slice (some ⟨xa.heap.size, 0, none⟩) 1 1) (xa.alloc (.cells (cc ⟨0, r⟩) 37)) (by go_simp) (zbm below1) ?_
    simp only [Act.put, List.setIfInBounds_toArray, List.set_cons_zero, List.set_cons_succ]
    have kc : SlE Ecc (xa.alloc (.cells (cc ⟨0, r⟩) 37)) (.slice (some ⟨xa.heap.size, 0, none⟩) 1 1) [⟨0, r⟩] := ze8 xa ⟨0, r⟩ _ rfl
    have ec : Value.ownBlock (.slice (some ⟨xa.heap.size, 0, none⟩) 1 1) ≠ some (w.heap.size + 1) := za9 (by have := Nat.lt_of_lt_of_le HLt.out Da.size; omega)
    have gc : Below xa.heap.size xa (xa.alloc (.cells (cc ⟨0, r⟩) 37)) := below1
    generalize xa.alloc (.cells (cc ⟨0, r⟩) 37) = xc at *
    obtain ⟨Tc, hTc⟩ : ∃ T, T = xa.heap.size := ⟨_, rfl⟩
    rw [← hTc] at kc ec ⊢
    clear hTc
    replace ka := zac gc ka
    have Dc := zad Da gc
    clear gc
    refine GX.branch1 4 (by kernel_rfl) ?_
    refine zby rfl rfl rfl (.slice (some ⟨xc.heap.size, 0, none⟩) 1 1) (xc.alloc (.cells #[.int .u64 0] 30)) (by go_simp) (zbm below1) ?_
    simp only [Act.put, List.setIfInBounds_toArray, List.set_cons_zero, List.set_cons_succ]
    have kb : SlE Enum (xc.alloc (.cells #[.int .u64 0] 30)) (.slice (some ⟨xc.heap.size, 0, none⟩) 1 1) [0] := zet xc (v := 0) (by decide) _ rfl
    have eb : Value.ownBlock (.slice (some ⟨xc.heap.size, 0, none⟩) 1 1) ≠ some (w.heap.size + 1) := za9 (by have := Nat.lt_of_lt_of_le HLt.out Dc.size; omega)
    have gb : Below xc.heap.size xc (xc.alloc (.cells #[.int .u64 0] 30)) := below1
    generalize xc.alloc (.cells #[.int .u64 0] 30) = xb at *
    obtain ⟨Tb, hTb⟩ : ∃ T, T = xc.heap.size := ⟨_, rfl⟩
    rw [← hTb] at kb eb ⊢
    clear hTb
    replace ka := zac gb ka
    replace kc := zac gb kc
    have Db := zad Dc gb
    clear gb
    obtain ⟨xz, hxz⟩ : ∃ X, X = xb := ⟨_, rfl⟩
    rw [← hxz]
    have Dz : Below W7.heap.size W7 xz := by rw [hxz]; exact Db
    rw [← hxz] at ka
    rw [← hxz] at kc
    rw [← hxz] at kb
    clear hxz Da Dc Db
  case' o4 =>
   refine zby rfl rfl rfl (.slice (some ⟨W7.drew.heap.size, 0, none⟩) 1 1) (W7.drew.alloc (.cells #[.int .u64 0] 30)) (by go_simp) (zbm below1) ?_
   simp only [Act.put, List.setIfInBounds_toArray, List.set_cons_zero, List.set_cons_succ]
   have kb : SlE Enum (W7.drew.alloc (.cells #[.int .u64 0] 30)) (.slice (some ⟨W7.drew.heap.size, 0, none⟩) 1 1) [0] := zet W7.drew (v := 0) (by decide) _ rfl
   have eb : Value.ownBlock (.slice (some ⟨W7.drew.heap.size, 0, none⟩) 1 1) ≠ some (w.heap.size + 1) := za9 (by have := Nat.lt_of_lt_of_le HLt.out D0.size; omega)
   have gb : Below W7.drew.heap.size W7.drew (W7.drew.alloc (.cells #[.int .u64 0] 30)) := below1
   generalize W7.drew.alloc (.cells #[.int .u64 0] 30) = xb at *
   obtain ⟨Tb, hTb⟩ : ∃ T, T = W7.drew.heap.size := ⟨_, rfl⟩
   rw [← hTb] at kb eb ⊢
   clear hTb
   have Db := zad D0 gb
   clear gb
   refine GX.branch2 2 6 (by kernel_rfl) ?o4_2 ?o4_6
   case' o4_2 =>
    refine zhb zpm rfl rfl rfl (.const (.slice none 0 0)) (.tmp 31) rfl xb.heap.size _ [] rfl (zbg _ _ _) _ bal rfl (zac Db KB.out) (by have := HL.out; have := HN.out; simp [maxLen]; omega) (by have := HL.out; have := HN.out; simp; omega) (Nat.le_refl _) (fun w' hb => zbm hb) ?_
    intro va xa oa gr
    simp only [Act.put, List.setIfInBounds_toArray, List.set_cons_zero, List.set_cons_succ]
    rw [List.nil_append] at oa
    obtain ⟨⟨pa, na, ca⟩, rfl⟩ : ∃ s : SlV, va = sv s := by obtain ⟨p, c, rfl, _⟩ := zaf (zai oa); exact ⟨⟨p, _, c⟩, (zav _ _ _).symm⟩
    rw [zav] at oa gr ⊢
    have la : w.heap.size + 1 < xb.heap.size := Nat.lt_of_lt_of_le HLt.out Db.size
    have ea : Value.ownBlock (.slice pa na ca) ≠ some (w.heap.size + 1) := zgp oa la
    have ga : Below xb.heap.size xb xa := (show Gr xb (.slice none 0 0) xa (.slice pa na ca) from gr).nil
    have ka := zai oa
    clear oa gr la
    replace kb := zac ga kb
    have Da := zad Db ga
    clear ga
    refine GX.branch1 6 (by kernel_rfl) ?_
    refine zby rfl rfl rfl (.slice (some ⟨xa.heap.size, 0, none⟩) 1 1) (xa.alloc (.cells (cc ⟨0, r⟩) 37)) (by go_simp) (zbm below1) ?_
    simp only [Act.put, List.setIfInBounds_toArray, List.set_cons_zero, List.set_cons_succ]
    have kc : SlE Ecc (xa.alloc (.cells (cc ⟨0, r⟩) 37)) (.slice (some ⟨xa.heap.size, 0, none⟩) 1 1) [⟨0, r⟩] := ze8 xa ⟨0, r⟩ _ rfl
    have ec : Value.ownBlock (.slice (some ⟨xa.heap.size, 0, none⟩) 1 1) ≠ some (w.heap.size + 1) := za9 (by have := Nat.lt_of_lt_of_le HLt.out Da.size; omega)
    have gc : Below xa.heap.size xa (xa.alloc (.cells (cc ⟨0, r⟩) 37)) := below1
    generalize xa.alloc (.cells (cc ⟨0, r⟩) 37) = xc at *
    obtain ⟨Tc, hTc⟩ : ∃ T, T = xa.heap.size := ⟨_, rfl⟩
    rw [← hTc] at kc ec ⊢
    clear hTc
    replace kb := zac gc kb
    replace ka := zac gc ka
    have Dc := zad Da gc
    clear gc
    obtain ⟨xz, hxz⟩ : ∃ X, X = xc := ⟨_, rfl⟩
    rw [← hxz]
    have Dz : Below W7.heap.size W7 xz := by rw [hxz]; exact Dc
    rw [← hxz] at kb
    rw [← hxz] at ka
    rw [← hxz] at kc
    clear hxz Db Da Dc
   case' o4_6 =>
    refine zby rfl rfl rfl (.slice (some ⟨xb.heap.size, 0, none⟩) 1 1) (xb.alloc (.cells (cc ⟨0, r⟩) 37)) (by go_simp) (zbm below1) ?_
    simp only [Act.put, List.setIfInBounds_toArray, List.set_cons_zero, List.set_cons_succ]
    have kc : SlE Ecc (xb.alloc (.cells (cc ⟨0, r⟩) 37)) (.slice (some ⟨xb.heap.size, 0, none⟩) 1 1) [⟨0, r⟩] := ze8 xb ⟨0, r⟩ _ rfl
    have ec : Value.ownBlock (.slice (some ⟨xb.heap.size, 0, none⟩) 1 1) ≠ some (w.heap.size + 1) := za9 (by have := Nat.lt_of_lt_of_le HLt.out Db.size; omega)
    have gc : Below xb.heap.size xb (xb.alloc (.cells (cc ⟨0, r⟩) 37)) := below1
    generalize xb.alloc (.cells (cc ⟨0, r⟩) 37) = xc at *
    obtain ⟨Tc, hTc⟩ : ∃ T, T = xb.heap.size := ⟨_, rfl⟩
    rw [← hTc] at kc ec ⊢
    clear hTc
    replace kb := zac gc kb
    have Dc := zad Db gc
    clear gc
    refine GX.branch1 2 (by kernel_rfl) ?_
    refine zhb zpm rfl rfl rfl (.const (.slice none 0 0)) (.tmp 31) rfl xc.heap.size _ [] rfl (zbg _ _ _) _ bal rfl (zac Dc KB.out) (by have := HL.out; have := HN.out; simp [maxLen]; omega) (by have := HL.out; have := HN.out; simp; omega) (Nat.le_refl _) (fun w' hb => zbm hb) ?_
    intro va xa oa gr
    simp only [Act.put, List.setIfInBounds_toArray, List.set_cons_zero, List.set_cons_succ]
    rw [List.nil_append] at oa
    obtain ⟨⟨pa, na, ca⟩, rfl⟩ : ∃ s : SlV, va = sv s := by obtain ⟨p, c, rfl, _⟩ := zaf (zai oa); exact ⟨⟨p, _, c⟩, (zav _ _ _).symm⟩
    rw [zav] at oa gr ⊢
    have la : w.heap.size + 1 < xc.heap.size := Nat.lt_of_lt_of_le HLt.out Dc.size
    have ea : Value.ownBlock (.slice pa na ca) ≠ some (w.heap.size + 1) := zgp oa la
    have ga : Below xc.heap.size xc xa := (show Gr xc (.slice none 0 0) xa (.slice pa na ca) from gr).nil
    have ka := zai oa
    clear oa gr la
    replace kb := zac ga kb
    replace kc := zac ga kc
    have Da := zad Dc ga
    clear ga
    obtain ⟨xz, hxz⟩ : ∃ X, X = xa := ⟨_, rfl⟩
    rw [← hxz]
    have Dz : Below W7.heap.size W7 xz := by rw [hxz]; exact Da
    rw [← hxz] at kb
    rw [← hxz] at kc
    rw [← hxz] at ka
    clear hxz Db Dc Da
  case' o6 =>
   refine zby rfl rfl rfl (.slice (some ⟨W7.drew.heap.size, 0, none⟩) 1 1) (W7.drew.alloc (.cells (cc ⟨0, r⟩) 37)) (by go_simp) (zbm below1) ?_
   simp only [Act.put, List.setIfInBounds_toArray, List.set_cons_zero, List.set_cons_succ]
   have kc : SlE Ecc (W7.drew.alloc (.cells (cc ⟨0, r⟩) 37)) (.slice (some ⟨W7.drew.heap.size, 0, none⟩) 1 1) [⟨0, r⟩] := ze8 W7.drew ⟨0, r⟩ _ rfl
   have ec : Value.ownBlock (.slice (some ⟨W7.drew.heap.size, 0, none⟩) 1 1) ≠ some (w.heap.size + 1) := za9 (by have := Nat.lt_of_lt_of_le HLt.out D0.size; omega)
   have gc : Below W7.drew.heap.size W7.drew (W7.drew.alloc (.cells (cc ⟨0, r⟩) 37)) := below1
   generalize W7.drew.alloc (.cells (cc ⟨0, r⟩) 37) = xc at *
   obtain ⟨Tc, hTc⟩ : ∃ T, T = W7.drew.heap.size := ⟨_, rfl⟩
   rw [← hTc] at kc ec ⊢
   clear hTc
   have Dc := zad D0 gc
   clear gc
   refine GX.branch2 2 4 (by kernel_rfl) ?o6_2 ?o6_4
   case' o6_2 =>
    refine zhb zpm rfl rfl rfl (.const (.slice none 0 0)) (.tmp 31) rfl xc.heap.size _ [] rfl (zbg _ _ _) _ bal rfl (zac Dc KB.out) (by have := HL.out; have := HN.out; simp [maxLen]; omega) (by have := HL.out; have := HN.out; simp; omega) (Nat.le_refl _) (fun w' hb => zbm hb) ?_
    intro va xa oa gr
    simp only [Act.put, List.setIfInBounds_toArray, List.set_cons_zero, List.set_cons_succ]
    rw [List.nil_append] at oa
    obtain ⟨⟨pa, na, ca⟩, rfl⟩ : ∃ s : SlV, va = sv s := by obtain ⟨p, c, rfl, _⟩ := zaf (zai oa); exact ⟨⟨p, _, c⟩, (zav _ _ _).symm⟩
    rw [zav] at oa gr ⊢
    have la : w.heap.size + 1 < xc.heap.size := Nat.lt_of_lt_of_le HLt.out Dc.size
    have ea : Value.ownBlock (.slice pa na ca) ≠ some (w.heap.size + 1) := zgp oa la
    have ga : Below xc.heap.size xc xa := (show Gr xc (.slice none 0 0) xa (.slice pa na ca) from gr).nil
    have ka := zai oa
    clear oa gr la
    replace kc := zac ga kc
    have Da := zad Dc ga
    clear ga
    refine GX.branch1 4 (by kernel_rfl) ?_
    refine zby rfl rfl rfl (.slice (some ⟨xa.heap.size, 0, none⟩) 1 1) (xa.alloc (.cells #[.int .u64 0] 30)) (by go_simp) (zbm below1) ?_
    simp only [Act.put, List.setIfInBounds_toArray, List.set_cons_zero, List.set_cons_succ]
    have kb : SlE Enum (xa.alloc (.cells #[.int .u64 0] 30)) (.slice (some ⟨xa.heap.size, 0, none⟩) 1 1) [0] := zet xa (v := 0) (by decide) _ rfl
    have eb : Value.ownBlock (.slice (some ⟨xa.heap.size, 0, none⟩) 1 1) ≠ some (w.heap.size + 1) := za9 (by have := Nat.lt_of_lt_of_le HLt.out Da.size; omega)
    have gb : Below xa.heap.size xa (xa.alloc (.cells #[.int .u64 0] 30)) := below1
    generalize xa.alloc (.cells #[.int .u64 0] 30) = xb at *
    obtain ⟨Tb, hTb⟩ : ∃ T, T = xa.heap.size := ⟨_, rfl⟩
    rw [← hTb] at kb eb ⊢
    clear hTb
    replace kc := zac gb kc
    replace ka := zac gb ka
    have Db := zad Da gb
    clear gb
    obtain ⟨xz, hxz⟩ : ∃ X, X = xb := ⟨_, rfl⟩
    rw [← hxz]
    have Dz : Below W7.heap.size W7 xz := by rw [hxz]; exact Db
    rw [← hxz] at kc
    rw [← hxz] at ka
    rw [← hxz] at kb
    clear hxz Dc Da Db
   case' o6_4 =>
    refine zby rfl rfl rfl (.slice (some ⟨xc.heap.size, 0, none⟩) 1 1) (xc.alloc (.cells #[.int .u64 0] 30)) (by go_simp) (zbm below1) ?_
    simp only [Act.put, List.setIfInBounds_toArray, List.set_cons_zero, List.set_cons_succ]
    have kb : SlE Enum (xc.alloc (.cells #[.int .u64 0] 30)) (.slice (some ⟨xc.heap.size, 0, none⟩) 1 1) [0] := zet xc (v := 0) (by decide) _ rfl
    have eb : Value.ownBlock (.slice (some ⟨xc.heap.size, 0, none⟩) 1 1) ≠ some (w.heap.size + 1) := za9 (by have := Nat.lt_of_lt_of_le HLt.out Dc.size; omega)
    have gb : Below xc.heap.size xc (xc.alloc (.cells #[.int .u64 0] 30)) := below1
    generalize xc.alloc (.cells #[.int .u64 0] 30) = xb at *
    obtain ⟨Tb, hTb⟩ : ∃ T, T = xc.heap.size := ⟨_, rfl⟩
    rw [← hTb] at kb eb ⊢
    clear hTb
    replace kc := zac gb kc
    have Db := zad Dc gb
    clear gb
    refine GX.branch1 2 (by kernel_rfl) ?_
    refine zhb zpm rfl rfl rfl (.const (.slice none 0 0)) (.tmp 31) rfl xb.heap.size _ [] rfl (zbg _ _ _) _ bal rfl (zac Db KB.out) (by have := HL.out; have := HN.out; simp [maxLen]; omega) (by have := HL.out; have := HN.out; simp; omega) (Nat.le_refl _) (fun w' hb => zbm hb) ?_
    intro va xa oa gr
    simp only [Act.put, List.setIfInBounds_toArray, List.set_cons_zero, List.set_cons_succ]
    rw [List.nil_append] at oa
    obtain ⟨⟨pa, na, ca⟩, rfl⟩ : ∃ s : SlV, va = sv s := by obtain ⟨p, c, rfl, _⟩ := zaf (zai oa); exact ⟨⟨p, _, c⟩, (zav _ _ _).symm⟩
    rw [zav] at oa gr ⊢
    have la : w.heap.size + 1 < xb.heap.size := Nat.lt_of_lt_of_le HLt.out Db.size
    have ea : Value.ownBlock (.slice pa na ca) ≠ some (w.heap.size + 1) := zgp oa la
    have ga : Below xb.heap.size xb xa := (show Gr xb (.slice none 0 0) xa (.slice pa na ca) from gr).nil
    have ka := zai oa
    clear oa gr la
    replace kc := zac ga kc
    replace kb := zac ga kb
    have Da := zad Db ga
    clear ga
    obtain ⟨xz, hxz⟩ : ∃ X, X = xa := ⟨_, rfl⟩
    rw [← hxz]
    have Dz : Below W7.heap.size W7 xz := by rw [hxz]; exact Da
    rw [← hxz] at kc
    rw [← hxz] at kb
    rw [← hxz] at ka
    clear hxz Dc Db Da
  all_goals
   refine GX.take2 8 rfl rfl rfl (by kernel_rfl) (by kernel_rfl) (by kernel_rfl) rfl hwB ?_
   (first | go_big_quiet_step (fail) | quiet_step (fail)); refine wpQuiet_nil ?_
   have me := zab Dz ME.out
   have yw := zay me (zak _)
   refine GX.branch1 9 (by kernel_rfl) ?_
   refine ze4 rfl rfl rfl (stA xz (.pointer (some ⟨w.heap.size + 1, 0, none⟩)) (.agg (en ⟨⟨s1⟩, ⟨pa, na, ca⟩, ⟨s2, (newV (nb : Int)).out⟩, ⟨some ⟨Tb, 0, none⟩, 1, 1⟩, ⟨none, 0, 0⟩, ⟨none, 0, 0⟩, ⟨some ⟨Tc, 0, none⟩, 1, 1⟩, ⟨0, r⟩, 0⟩))) (by (go_simp; first | done | rfl)) (zb7 (by kernel_rfl) (zao (Below.refl _ _) (Nat.le_refl _))) ?_
   simp only [Act.put]
   have HR : Hid (LaidG (stA xz (.pointer (some ⟨w.heap.size + 1, 0, none⟩)) (.agg (en ⟨⟨s1⟩, ⟨pa, na, ca⟩, ⟨s2, (newV (nb : Int)).out⟩, ⟨some ⟨Tb, 0, none⟩, 1, 1⟩, ⟨none, 0, 0⟩, ⟨none, 0, 0⟩, ⟨some ⟨Tc, 0, none⟩, 1, 1⟩, ⟨0, r⟩, 0⟩))) ⟨⟨s1⟩, ⟨pa, na, ca⟩, ⟨s2, (newV (nb : Int)).out⟩, ⟨some ⟨Tb, 0, none⟩, 1, 1⟩, ⟨none, 0, 0⟩, ⟨none, 0, 0⟩, ⟨some ⟨Tc, 0, none⟩, 1, 1⟩, ⟨0, r⟩, 0⟩ (newG r bal)) := by have := z42 me (zac Dz K1.out) (zac Dz K2.out) (sb := ⟨pa, na, ca⟩) (sw := ⟨some ⟨Tb, 0, none⟩, 1, 1⟩) (sj := ⟨some ⟨Tc, 0, none⟩, 1, 1⟩) (by rw [zav]; exact ka) (by rw [zav]; exact ea) (by rw [zav]; exact kb) (by rw [zav]; exact eb) (by rw [zav]; exact kc) (by rw [zav]; exact ec) (.agg (en ⟨⟨s1⟩, ⟨pa, na, ca⟩, ⟨s2, (newV (nb : Int)).out⟩, ⟨some ⟨Tb, 0, none⟩, 1, 1⟩, ⟨none, 0, 0⟩, ⟨none, 0, 0⟩, ⟨some ⟨Tc, 0, none⟩, 1, 1⟩, ⟨0, r⟩, 0⟩)); rw [HL.out] at this; exact this
   have HM : Hid ((stA xz (.pointer (some ⟨w.heap.size + 1, 0, none⟩)) (.agg (en ⟨⟨s1⟩, ⟨pa, na, ca⟩, ⟨s2, (newV (nb : Int)).out⟩, ⟨some ⟨Tb, 0, none⟩, 1, 1⟩, ⟨none, 0, 0⟩, ⟨none, 0, 0⟩, ⟨some ⟨Tc, 0, none⟩, 1, 1⟩, ⟨0, r⟩, 0⟩))).heap[w.heap.size + 1]? = some (.cells (en ⟨⟨s1⟩, ⟨pa, na, ca⟩, ⟨s2, (newV (nb : Int)).out⟩, ⟨some ⟨Tb, 0, none⟩, 1, 1⟩, ⟨none, 0, 0⟩, ⟨none, 0, 0⟩, ⟨some ⟨Tc, 0, none⟩, 1, 1⟩, ⟨0, r⟩, 0⟩) 39 (0, 0))) := by show _ = _; rw [zbe me (by rw [zak, zak]; decide)]; congr 2; exact zek (by rw [zak, zak])
   have HZ : Hid (Below w.heap.size w (stA xz (.pointer (some ⟨w.heap.size + 1, 0, none⟩)) (.agg (en ⟨⟨s1⟩, ⟨pa, na, ca⟩, ⟨s2, (newV (nb : Int)).out⟩, ⟨some ⟨Tb, 0, none⟩, 1, 1⟩, ⟨none, 0, 0⟩, ⟨none, 0, 0⟩, ⟨some ⟨Tc, 0, none⟩, 1, 1⟩, ⟨0, r⟩, 0⟩)))) := zao (zad A0.out Dz) (by omega)
   clear yw
   refine GX.take2 10 rfl rfl rfl (by kernel_rfl) (by kernel_rfl) (by kernel_rfl) rfl hwB ?_
   (first | go_big_quiet_step (fail) | quiet_step (fail)); refine wpQuiet_nil ?_
   refine GX.nil (by kernel_rfl) ?_
   clear Q0 Q1 Q2 hwB
   go_wp2_with fail
   exact bodyPost_ret (v := .tuple #[.agg (en _), .bool true]) (zaj Tryz.isAgg39 Tryz.sizeOf39 _ 4 5 rfl _ _ _ _ _ rfl rfl (zae HM.out (zak _))) rfl ⟨_, rfl, by rw [HG.out]; exact HR.out, HZ.out⟩
theorem yhh (r : Rt) (v : Value) (bal : List UInt64) (w : World) (h : SlE Enum w v bal) (hn : bal.length ≤ 1000) :
  Calls Tryz.prog 12 #[.agg (rc r), v] w (EgOk (if mayB bal = true then newG r bal else zor) (mayB bal) w) := by
 have k := h
 obtain ⟨p, c, rfl, _⟩ := zaf h
 exact z65 r p _ c bal w k rfl hn
end
end Go.Proofs.YtmihlihlpdkdcaaGreat
