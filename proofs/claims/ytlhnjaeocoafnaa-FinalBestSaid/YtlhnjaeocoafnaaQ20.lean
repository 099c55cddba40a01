/-
  The document's own thirds: need, Most, Some, over natural numbers.
  The document's balances: Of, Total, Most, walked.
  The document's links: One, walked. (cut out of XR15One)
  The document's: does a link count? walked. (written by wip/gen/ref16.py)
-/
import Derived.Test.YtlhnjaeocoafnaaQ10
import Derived.Test.YtlhnjaeocoafnaaQ18
import Derived.Test.YtlhnjaeocoafnaaQ19
import Derived.Test.YtlhnjaeocoafnaaQ14
import Derived.Deep.Cut
import Derived.Deep.CutRange
import Derived.Deep.RegionLaw
namespace Go.Proofs.Ytlhnjaeocoafnaa
open Go.RowKit
set_option maxRecDepth 100000

def needN (b : Nat) : Nat := 2 * (b / 3) + b % 3
theorem needN_most (a b : Nat) : decide (needN b ≤ a) = mostN a b := most_need a b
theorem needN_lt {b : Nat} (h : b < 18446744073709551616) : needN b < 18446744073709551616 := by unfold needN; omega

set_option maxHeartbeats 400000 in
theorem ref01Need (b : Nat) (hb1 : b < 18446744073709551616) (w : World) :
    Calls Try.prog 105 #[.int .u64 (b : Int)] w fun e w' => e = .returned (.int .u64 (needN b : Int)) ∧ Below w.heap.size w w' := by
  have hb0 : (0 : Int) ≤ (b : Int) := by omega
  have hb2 : (b : Int) < 18446744073709551616 := by omega
  rcases (by omega : b % 3 = 0 ∨ b % 3 = 1 ∨ b % 3 = 2) with h | h | h
  · rw [show (needN b : Int) = 2 * ((b : Int) / 3) by unfold needN; omega]
    have h1 : ((b : Int) % 3 == 1) = false := beq_eq_false_iff_ne.2 (by omega)
    have h2 : ((b : Int) % 3 == 2) = false := beq_eq_false_iff_ne.2 (by omega)
    clear h hb1
    go_enter Try.func105, Try.ntmps105
    go_wp2
    go_ret
    exact ⟨rfl, Below.refl _ _⟩
  · rw [show (needN b : Int) = 2 * ((b : Int) / 3) + 1 by unfold needN; omega]
    have h1 : ((b : Int) % 3 == 1) = true := beq_iff_eq.2 (by omega)
    clear h hb1
    go_enter Try.func105, Try.ntmps105
    go_wp2
    go_ret
    exact ⟨rfl, Below.refl _ _⟩
  · rw [show (needN b : Int) = 2 * ((b : Int) / 3) + 2 by unfold needN; omega]
    have h1 : ((b : Int) % 3 == 1) = false := beq_eq_false_iff_ne.2 (by omega)
    have h2 : ((b : Int) % 3 == 2) = true := beq_iff_eq.2 (by omega)
    clear h hb1
    go_enter Try.func105, Try.ntmps105
    go_wp2
    go_ret
    exact ⟨rfl, Below.refl _ _⟩

set_option maxHeartbeats 400000 in
theorem ref01Most (a b : Nat) (hb : b < 18446744073709551616) (w : World) :
    Calls Try.prog 86 #[.int .u64 (a : Int), .int .u64 (b : Int)] w fun e w' => e = .returned (.bool (mostN a b)) ∧ Below w.heap.size w w' := by
  rw [← needN_most a b]
  have c := Lib.hid (fun W => ref01Need b hb W)
  obtain ⟨m, hm⟩ : ∃ m, m = needN b := ⟨_, rfl⟩
  rw [← hm] at c
  rw [← hm]
  obtain ⟨r, hr⟩ : ∃ r, r = decide (m ≤ a) := ⟨_, rfl⟩
  have d0 : decide ((m : Int) ≤ (a : Int)) = r := by rw [hr]; congr 1; rw [eq_iff_iff]; omega
  have d0' : decide (m ≤ a) = r := hr.symm
  rw [← hr]
  clear hm hb hr
  go_enter Try.func86, Try.ntmps86
  go_wp2_with fail
  refine (c.out _).mono ?_
  rintro e w1 ⟨rfl, g⟩
  go_wp2_with fail
  go_ret
  exact ⟨rfl, g⟩
theorem enters_ref01Most : ∀ args w, (callFunc 86 args).run Try.prog w = .ok (.enter 86 args) w := entersE Try.func86 (by kernel_rfl) (by kernel_rfl)
end Go.Proofs.Ytlhnjaeocoafnaa
namespace Go.Proofs.Ytlhnjaeocoafnaa
open Go.RowKit
set_option maxRecDepth 100000

set_option maxRecDepth 100000 in
set_option maxHeartbeats 4000000 in
theorem ref11Of_n (p : Option Addr) (n cp : Nat) (l : List UInt64) (mask : UInt64) (w : World) (h : SlE Enum w (.slice p n cp) l) (hl : l.length = n) (hn : n ≤ 1152921504606846976) :
    Calls Try.prog 87 #[.slice p n cp, .int .u64 (mask.toNat : Int)] w fun e w' => e = .returned (.int .u64 (ofS l mask : Int)) ∧ Below w.heap.size w w' := by
  have HMy := Lib.hid (ref11May (.slice p n cp) l w h (by omega))
  have HH := Lib.hid (fun (v : Nat) (hv : v < 64) W => ref11HasN mask hv W)
  obtain ⟨m, hm⟩ : ∃ m, m = (mask.toNat : Int) := ⟨_, rfl⟩
  rw [← hm] at HH
  rw [← hm]
  have HS := Lib.hid h
  have HL := Lib.hid hl
  obtain ⟨b, hb⟩ : ∃ b, b = mayB l := ⟨_, rfl⟩
  rw [← hb] at HMy
  have HBb := Lib.hid hb
  clear hm h hl hn hb
  go_enter Try.func87, Try.ntmps87
  go_wp2_with fail
  refine HMy.out.mono ?_
  rintro e w1 ⟨rfl, g1⟩
  have G1 := Lib.hid g1
  clear g1
  cases b
  · have HE : Hid (ofS l mask = 0) := Lib.hid (ofS_no HBb.out.symm)
    go_wp2_with fail
    go_loopw [5, 7] (fun o i wr => i = .int .i64 0 ∧ o = .int .u64 0 ∧ wr = w1) (fun _ _ _ => 0)
    case atStart => exact ⟨rfl, rfl, rfl⟩
    case round =>
      obtain ⟨rfl, rfl, rfl⟩ := hrel
      by_cases h0 : 0 < n
      · have d0 : decide ((0 : Int) < (n : Int)) = true := decide_eq_true (by omega)
        have d1 : decide (0 < n) = true := decide_eq_true h0
        clear h0
        go_wp2_with fail
        go_ret
        exact ⟨by rw [HE.out]; first | done | rfl, G1.out⟩
      · have d0 : decide ((0 : Int) < (n : Int)) = false := decide_eq_false (by omega)
        have d1 : decide (0 < n) = false := decide_eq_false h0
        clear h0
        go_wp2_with fail
        go_ret
        exact ⟨by rw [HE.out]; first | done | rfl, G1.out⟩
  · have hmay := HBb.out.symm
    have HE : Hid (ofS l mask = ofN (fn l) n mask) := by show _ = _; rw [ofS_yes hmay, HL.out]
    have HPt : Hid (∀ k, k ≤ n → ofN (fn l) k mask ≤ 8796093022208) := fun k hk => of_part hmay (by rw [HL.out]; exact hk)
    have HN : Hid (n ≤ 8) := by show n ≤ 8; have := (mayB_iff.1 hmay).2.1; rw [HL.out] at this; exact this
    clear hmay
    go_wp2_with fail
    go_loopw [5, 7] (fun o i wr => ∃ j : Nat, j ≤ n ∧ i = .int .i64 (j : Int) ∧ o = .int .u64 (ofN (fn l) j mask : Int) ∧ Below w1.heap.size w1 wr) (fun _ i _ => n - (intOf i).toNat)
    case atStart => exact ⟨0, Nat.zero_le _, rfl, rfl, Below.refl _ _⟩
    case round =>
      obtain ⟨j, hj, rfl, rfl, hb⟩ := hrel
      have HB := Lib.hid hb
      clear hb
      by_cases hlt : j < n
      · have i0 : (0 : Int) ≤ (j : Int) := by omega
        have i1 : (j : Int) < (n : Int) := by omega
        have u1 : (j : Int) + 1 < 1152921504606846980 := by have := HN.out; omega
        have HC := Lib.hid (HH.out j (by have := HN.out; omega) wr)
        obtain ⟨b, hb⟩ : ∃ b, b = hasB mask j := ⟨_, rfl⟩
        rw [← hb] at HC
        have HBb2 := Lib.hid hb
        have HLT := Lib.hid hlt
        have ps := HPt.out (j + 1) hlt
        obtain ⟨o, ho⟩ : ∃ o, o = ofN (fn l) j mask := ⟨_, rfl⟩
        obtain ⟨y, hy⟩ : ∃ y, y = fn l j := ⟨_, rfl⟩
        have HYo : Hid (hasB mask j = true → ofN (fn l) (j + 1) mask = o + y) := fun e => by rw [ho, hy]; exact of_succ_yes _ e
        have HNo : Hid (hasB mask j = false → ofN (fn l) (j + 1) mask = o) := fun e => by rw [ho]; exact of_succ_no _ e
        have HSum : Hid (hasB mask j = true → o + y ≤ 8796093022208) := fun e => by rw [← HYo.out e]; exact ps
        have HY := Lib.hid hy
        rw [← ho]
        clear hlt hb ho hy ps
        go_wp2_with fail
        refine HC.out.mono ?_
        rintro e w2 ⟨rfl, g⟩
        have B2 := Lib.hid (belowT HB.out g)
        clear g
        cases b
        · have HX := Lib.hid (HNo.out HBb2.out.symm)
          go_wp2_with fail
          go_roundw
          case rel => exact ⟨j + 1, HLT.out, by go_num, by rw [HX.out], B2.out⟩
          case measure => simp [intOf]; have := HLT.out; omega
        · have HX := Lib.hid (HYo.out HBb2.out.symm)
          have hsum := HSum.out HBb2.out.symm
          obtain ⟨b1, o1, rfl, q1, x1⟩ := nums_ptr (slE_keep (belowT G1.out B2.out) HS.out) (by have := HL.out; have := HLT.out; omega)
          have y1 := nums_cell x1 (i := j) (by have := HL.out; have := HLT.out; omega)
          rw [← HY.out] at y1
          have u2 : (o : Int) + (y : Int) < 18446744073709551616 := by omega
          clear hsum x1 q1
          go_wp2_with fail
          go_roundw
          case rel => exact ⟨j + 1, HLT.out, by go_num, by rw [HX.out]; first | done | rfl | (rw [Int.natCast_add]), B2.out⟩
          case measure => simp [intOf]; have := HLT.out; omega
      · obtain rfl : j = n := by omega
        clear hlt
        go_wp2_with fail
        go_ret
        exact ⟨by rw [HE.out]; first | done | rfl, belowT G1.out HB.out⟩
theorem ref11Of (v : Value) (l : List UInt64) (mask : UInt64) (w : World) (h : SlE Enum w v l) (hn : l.length ≤ 1152921504606846976) :
    Calls Try.prog 87 #[v, .int .u64 (mask.toNat : Int)] w fun e w' => e = .returned (.int .u64 (ofS l mask : Int)) ∧ Below w.heap.size w w' := by
  have k := h
  obtain ⟨p, cp, rfl, _⟩ := slE_shape h
  exact ref11Of_n p _ cp l mask w k rfl hn
theorem enters_ref11Of : ∀ args w, (callFunc 87 args).run Try.prog w = .ok (.enter 87 args) w := entersE Try.func87 (by kernel_rfl) (by kernel_rfl)

set_option maxHeartbeats 1000000 in
theorem ref11Total (v : Value) (l : List UInt64) (w : World) (h : SlE Enum w v l) (hn : l.length ≤ 1152921504606846976) :
    Calls Try.prog 88 #[v] w fun e w' => e = .returned (.int .u64 (totS l : Int)) ∧ Below w.heap.size w w' := by
  have HC := Lib.hid (ref11Of v l allM w h hn)
  rw [show ((allM.toNat : Nat) : Int) = 18446744073709551615 from rfl] at HC
  obtain ⟨t, ht⟩ : ∃ t, t = totS l := ⟨_, rfl⟩
  rw [show ofS l allM = t from ht.symm] at HC
  rw [← ht]
  clear h hn ht
  go_enter Try.func88, Try.ntmps88
  go_wp2_with fail
  refine HC.out.mono ?_
  rintro e w1 ⟨rfl, g⟩
  go_wp2_with fail
  go_ret
  exact ⟨rfl, g⟩
theorem enters_ref11Total : ∀ args w, (callFunc 88 args).run Try.prog w = .ok (.enter 88 args) w := entersE Try.func88 (by kernel_rfl) (by kernel_rfl)

set_option maxHeartbeats 1000000 in
theorem ref11Most (v : Value) (l : List UInt64) (mask : UInt64) (w : World) (h : SlE Enum w v l) (hn : l.length ≤ 1152921504606846976) :
    Calls Try.prog 67 #[v, .int .u64 (mask.toNat : Int)] w fun e w' => e = .returned (.bool (mostS l mask)) ∧ Below w.heap.size w w' := by
  have HM := Lib.hid (ref11May v l w h hn)
  have HO := Lib.hid (fun W (g : Below w.heap.size w W) => ref11Of v l mask W (slE_keep g h) hn)
  have HT := Lib.hid (fun W (g : Below w.heap.size w W) => ref11Total v l W (slE_keep g h) hn)
  have HX := Lib.hid (fun W => ref01Most (ofS l mask) (totS l) (by have : totS l ≤ 8796093022208 := ofS_lt; omega) W)
  obtain ⟨m, hm⟩ : ∃ m, m = (mask.toNat : Int) := ⟨_, rfl⟩
  rw [← hm] at HO
  rw [← hm]
  have he : mostS l mask = (mayB l && mostN (ofS l mask) (totS l)) := rfl
  rw [he]
  generalize mostN (ofS l mask) (totS l) = r at *
  generalize ofS l mask = o at *
  generalize totS l = t at *
  generalize mayB l = b at *
  clear h hn hm he
  go_enter Try.func67, Try.ntmps67
  go_wp2_with fail
  refine HM.out.mono ?_
  rintro e w1 ⟨rfl, g1⟩
  have G1 := Lib.hid g1
  clear g1
  go_wp2_with fail
  refine (HO.out _ G1.out).mono ?_
  rintro e w2 ⟨rfl, g⟩
  have G2 := Lib.hid (belowT G1.out g)
  clear g
  go_wp2_with fail
  refine (HT.out _ G2.out).mono ?_
  rintro e w3 ⟨rfl, g⟩
  have G3 := Lib.hid (belowT G2.out g)
  clear g
  go_wp2_with fail
  refine (HX.out _).mono ?_
  rintro e w4 ⟨rfl, g⟩
  have G4 := Lib.hid (belowT G3.out g)
  clear g
  cases b <;> cases r <;> (
    go_wp2_with fail
    go_ret
    exact ⟨rfl, G4.out⟩)
theorem enters_ref11Most : ∀ args w, (callFunc 67 args).run Try.prog w = .ok (.enter 67 args) w := entersE Try.func67 (by kernel_rfl) (by kernel_rfl)
end Go.Proofs.Ytlhnjaeocoafnaa
namespace Go.Proofs.Ytlhnjaeocoafnaa
open Go.RowKit
set_option maxRecDepth 100000

/-- Two links in variables. -/
theorem lk_two (w : World) (a b : Lk) (W : World) (hW : W = (w.alloc (.cells (lk a) 63)).alloc (.cells (lk b) 63)) : Below w.heap.size w W ∧ LkV W w.heap.size a ∧ LkV W (w.heap.size + 1) b := by
  obtain ⟨g, m, n, _⟩ := heap2 w _ _ _ _ W hW
  exact ⟨g, lk_v m, lk_v n⟩

theorem ck_two (w : World) (a b : Ck) (W : World) (hW : W = (w.alloc (.cells (cc a) 32)).alloc (.cells (cc b) 32)) : Below w.heap.size w W ∧ W.heap[w.heap.size]? = some (.cells (cc a) 32 (0, 0)) ∧ W.heap[w.heap.size + 1]? = some (.cells (cc b) 32 (0, 0)) := by
  obtain ⟨g, m, n, _⟩ := heap2 w _ _ _ _ W hW
  exact ⟨g, m, n⟩

set_option maxRecDepth 100000 in
set_option maxHeartbeats 4000000 in
theorem ref15One (a b : Lk) (w : World) :
    Calls Try.prog 85 #[.agg (lk a), .agg (lk b)] w fun e w' => e = .returned (.bool (oneB a b)) ∧ Below w.heap.size w w' := by
  obtain ⟨W0, hW0⟩ : ∃ W0, W0 = (w.alloc (.cells (lk a) 63)).alloc (.cells (lk b) 63) := ⟨_, rfl⟩
  obtain ⟨hB, A, B⟩ := lk_two w a b W0 hW0
  have HB := Lib.hid hB
  have HW := Lib.hid hW0
  have a1 := A.s
  have a2 := A.t
  have b1 := B.s
  have b2 := B.t
  have HR : Hid (oneB a b = (decide (a.s = b.s) && decide (a.t = b.t))) := by show _ = _; unfold oneB; rw [Bool.eq_iff_iff]; simp
  rw [HR.out]
  obtain ⟨E1, hE1⟩ : ∃ E, E = decide (a.s = b.s) := ⟨_, rfl⟩
  obtain ⟨E2, hE2⟩ : ∃ E, E = decide (a.t = b.t) := ⟨_, rfl⟩
  rw [← hE1, ← hE2]
  clear HR hW0 hB A B
  go_enter Try.func85, Try.ntmps85
  go_upto_region 1 with fail
  rw [← HW.out]
  generalize a.s = A1 at *
  generalize a.t = A2 at *
  generalize b.s = B1 at *
  generalize b.t = B2 at *
  have t1 := hE1.symm
  have t2 := hE2.symm
  clear hE1 hE2
  cases E1 <;> (
    go_wp2_with fail
    go_ret
    exact ⟨by first | rfl | (rw [t2]; rfl) | (cases E2 <;> rfl), HB.out⟩)
theorem enters_ref15One : ∀ args w, (callFunc 85 args).run Try.prog w = .ok (.enter 85 args) w := entersE Try.func85 (by kernel_rfl) (by kernel_rfl)
end Go.Proofs.Ytlhnjaeocoafnaa
namespace Go.Proofs.Ytlhnjaeocoafnaa
open Go.RowKit
set_option maxRecDepth 100000

set_option maxRecDepth 100000 in
set_option maxHeartbeats 8000000 in
theorem ref16Counts (s : SlV) (v : Value) (l : List Nd) (k : Lk) (bal : List UInt64) (w : World) (h : SlE Ene w (sv s) l) (h2 : SlE Enum w v bal) (hn : l.length ≤ 1000) (hk : bal.length ≤ 1152921504606846976) :
    Calls Try.prog 39 #[.agg (tr ⟨s⟩), .agg (lk k), v] w fun e w' => e = .returned (.bool (cntB l bal k)) ∧ Below w.heap.size w w' := by
  have HA := Lib.hid (fun W (g : Below w.heap.size w W) => ref16Behind s l k.t k.s W (slE_keep g h) hn)
  have HM := Lib.hid (fun W (g : Below w.heap.size w W) => ref11Most v bal k.mask W (slE_keep g h2) hk)
  have HT : Hid (cntB l bal k = (behindB l k.t k.s && mostS bal k.mask)) := rfl
  rw [HT.out]
  generalize behindB l k.t k.s = a at *
  generalize mostS bal k.mask = b at *
  obtain ⟨W0, hW0⟩ : ∃ W0, W0 = (w.alloc (.cells (tr ⟨s⟩) 24)).alloc (.cells (lk k) 63) := ⟨_, rfl⟩
  obtain ⟨hB, k0, k1, hz0⟩ := heap2 w _ _ _ _ W0 hW0
  have HB := Lib.hid hB
  have HW := Lib.hid hW0
  have K1 := Lib.hid k1
  have z0 := (tr_cells k0).2.1
  have z1 := (lk_v k1).s
  have z2 := (lk_v k1).t
  clear hW0 h h2 hn hk hB k0 k1 hz0 HT
  go_enter Try.func39, Try.ntmps39
  go_upto_region 1 with fail
  rw [← HW.out]
  go_wp2_with fail
  refine (HA.out W0 HB.out).mono ?_
  rintro e w1 ⟨rfl, g⟩
  have G1 := Lib.hid (belowT HB.out g)
  have z3 := (lk_v (blk_keep g K1.out)).m
  clear g z0 z1 z2
  go_wp2_with fail
  refine (HM.out _ G1.out).mono ?_
  rintro e w2 ⟨rfl, g⟩
  have G2 := Lib.hid (belowT G1.out g)
  clear g z3
  cases a <;> cases b <;> (
    go_wp2_with fail
    go_ret
    exact ⟨rfl, G2.out⟩)
theorem enters_ref16Counts : ∀ args w, (callFunc 39 args).run Try.prog w = .ok (.enter 39 args) w := entersE Try.func39 (by kernel_rfl) (by kernel_rfl)
end Go.Proofs.Ytlhnjaeocoafnaa
