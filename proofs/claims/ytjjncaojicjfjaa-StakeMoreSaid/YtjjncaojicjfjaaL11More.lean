/-
  The law StakeMore, walked. (written by wip/gen/law11.py)
-/
import Derived.Test.YtjjncaojicjfjaaW11
import Derived.Test.YtjjncaojicjfjaaStakeR
namespace Go.Proofs.Ytjjncaojicjfjaa
open Go.RowKit

set_option maxRecDepth 100000 in
set_option maxHeartbeats 8000000 in
theorem stakeMore_n (H : StakeC) (q : Option Addr) (n c : Nat) (l : List UInt64) (a : UInt64) (b : UInt64) (w : World) (h : SlE Enum w (.slice q n c) l) (hl : l.length = n) :
    Calls Try.prog 6 #[.slice q n c, .int .u64 (a.toNat : Int), .int .u64 (b.toNat : Int)] w fun e w' => e = .returned (.bool true) ∧ Below w.heap.size w w' := by
  have A : Hid (Bw w w (.slice q n c) l) := ⟨h, Below.refl _ _⟩
  have HL := Lib.hid hl
  have HAw := Lib.hid (fun W => awake_any11 H W)
  have H := Lib.hid H
  clear h hl
  go_enter Try.func6, Try.ntmps6
  go_wp2_with fail
  refine (HAw.out _).mono ?_
  rintro e w1 ⟨rfl, g⟩
  replace A := Lib.hid (A.out.keep g)
  clear g
  obtain ⟨e1, e2, e3⟩ := lawS_more (l := l) a b
  have l1 := ofS_lt (bal := l) (mask := a)
  have HWh := Lib.hid (fun W => H.out.who a W)
  have HA := Lib.hid (fun W (g : SlE Enum W (.slice q n c) l) => H.out.of _ l a W g)
  have HO := Lib.hid (fun W (g : SlE Enum W (.slice q n c) l) => H.out.of _ l (a ||| b) W g)
  have HX := Lib.hid (fun W (g : SlE Enum W (.slice q n c) l) => H.out.most _ l a W g)
  have HY := Lib.hid (fun W (g : SlE Enum W (.slice q n c) l) => H.out.most _ l (a ||| b) W g)
  have HZ := Lib.hid (fun W (g : SlE Enum W (.slice q n c) l) => H.out.some _ l a W g)
  have hor := m_or a b
  have HK1 : Hid ((whoI a).length = (whoT a).length) := Lib.hid (whoI_len a)
  have HK2 : Hid (∀ q, q < (whoT a).length → (whoI a).getD q 0 = ((whoT a).getD q 0 : Int) ∧ (whoT a).getD q 0 < 64) := fun q hq => ⟨whoI_at hq, whoT_lt hq⟩
  have HK3 : Hid (∀ q, q + 1 < (whoT a).length → (whoT a).getD q 0 < (whoT a).getD (q + 1) 0) := fun q hq => whoT_up hq
  have HK4 := Lib.hid (bitK_who a)
  have HK5 : Hid ((whoT a).length ≤ 64) := by show _ ≤ _; rw [← whoI_len]; exact who_len a
  have HBt : Hid (∀ q W, q < (whoT a).length → Calls Try.prog 23 #[.int .i64 ((whoT a).getD q 0 : Int)] W fun e w' => e = .returned (.int .u64 ((2 ^ (whoT a).getD q 0 : Nat) : Int)) ∧ Below W.heap.size W w') := fun q W hq => by
    have := H.out.bit ((whoT a).getD q 0 : Int) W
    rwa [bitN_nat (whoT_lt hq)] at this
  generalize whoI a = KI at *
  generalize whoT a = K at *
  have hAl := a.toNat_lt
  generalize ofS l a = o1 at *
  generalize ofS l (a ||| b) = o2 at *
  generalize mostS l a = y1 at *
  generalize mostS l (a ||| b) = y2 at *
  generalize someS l a = y3 at *
  generalize (a ||| b).toNat = rb at *
  generalize a.toNat = A1 at *
  have d2 : decide ((o1 : Int) ≤ (o2 : Int)) = true := decide_eq_true (by omega)
  have d2' : decide (o1 ≤ o2) = true := decide_eq_true e1
  have E2 := Lib.hid e2
  have E3 := Lib.hid e3
  have HAl := Lib.hid hAl
  have HM : Hid (∀ q, q ≤ K.length → bitK K q < 18446744073709551616) := fun q hq => by have := bitK_mono hq (Nat.le_refl K.length); rw [HK4.out] at this; omega
  obtain ⟨m, hm⟩ : ∃ m, m = K.length := ⟨_, rfl⟩
  rw [← hm] at HK1 HK2 HK3 HK4 HK5 HBt HM
  have Hm := Lib.hid hm
  clear e1 e2 e3 l1 hAl hm
  go_wp2_with fail
  refine (HWh.out _).mono ?_
  rintro e w2 ⟨vk, rfl, hv, g⟩
  replace A := Lib.hid (A.out.keep g)
  obtain ⟨pk, ck, rfl⟩ := slE_len hv HK1.out
  have SK := Lib.hid hv
  clear hv
  clear g
  go_wp2_with fail
  go_loopw [9, 10] (fun s i wr => ∃ j : Nat, j ≤ m ∧ i = .int .i64 (j : Int) ∧ s = .int .u64 (bitK K j : Int) ∧ Below w2.heap.size w2 wr) (fun _ i _ => m - (intOf i).toNat)
  case atStart => exact ⟨0, Nat.zero_le _, rfl, rfl, Below.refl _ _⟩
  case round =>
    obtain ⟨j, hj, rfl, rfl, hb⟩ := hrel
    have HB := Lib.hid hb
    clear hb
    by_cases hlt : j < m
    · have i0 : (0 : Int) ≤ (j : Int) := by omega
      have i1 : (j : Int) < (m : Int) := by omega
      have u1 : (j : Int) + 1 < 10000 := by have := HK5.out; omega
      obtain ⟨b1, o1, rfl, _, x1⟩ := ints_ptr (slE_keep HB.out SK.out) (by rw [HK1.out]; omega)
      have y1 := ints_at x1 (i := j) (by rw [HK1.out]; exact hlt)
      rw [(HK2.out j hlt).1] at y1
      have HC := Lib.hid (fun W => HBt.out j W hlt)
      have HMs := HM.out (j + 1) hlt
      have HE := bitK_succ (K := K) (q := j) (by rw [← Hm.out]; exact hlt)
      rw [HE] at HMs
      have HLT := Lib.hid hlt
      by_cases hj0 : j = 0
      · subst hj0
        clear x1
        rw [Nat.add_zero] at y1
        obtain ⟨cv, hcv⟩ : ∃ cv, cv = K.getD 0 0 := ⟨_, rfl⟩
        rw [← hcv] at y1 HE HMs HC
        obtain ⟨pw, hpw⟩ : ∃ pw, pw = 2 ^ cv := ⟨_, rfl⟩
        rw [← hpw] at HE HMs HC
        obtain ⟨s, hs⟩ : ∃ s, s = bitK K 0 := ⟨_, rfl⟩
        rw [← hs] at HE HMs
        rw [← hs]
        have U2 : Unit → (s : Int) + (pw : Int) < 18446744073709551616 := fun _ => by omega
        have HEh := Lib.hid HE
        have Y1 := Lib.hid y1
        clear hlt HE HMs hcv hpw hs
        go_wp2_with fail
        go_quiet (fail)
        have y1 := Y1.out
        go_wp2_with fail
        refine (HC.out _).mono ?_
        rintro e w5 ⟨rfl, g⟩
        have B5 := Lib.hid (belowT (belowD HB.out _) g)
        clear g
        have u2 := U2 ()
        go_wp2_with fail
        go_roundw
        case rel => exact ⟨0 + 1, HLT.out, by go_num, by rw [HEh.out]; first | done | rfl | (rw [Int.natCast_add]), B5.out⟩
        case measure => simp [intOf]; have := HLT.out; omega
      · have d0 : decide ((0 : Int) < (j : Int)) = true := decide_eq_true (by omega)
        have d0' : decide (0 < j) = true := decide_eq_true (by omega)
        obtain ⟨p, rfl⟩ : ∃ p, j = p + 1 := ⟨j - 1, by omega⟩
        have y2 := ints_at x1 (i := p) (by rw [HK1.out]; omega)
        rw [(HK2.out p (by omega)).1] at y2
        have hup := HK3.out p hlt
        obtain ⟨pv, hpv⟩ : ∃ pv, pv = K.getD p 0 := ⟨_, rfl⟩
        rw [← hpv] at y2 hup
        have k0 : ((p + 1 : Nat) : Int) - 1 = (p : Int) := by omega
        have k1 : (0 : Int) ≤ (p : Int) := by omega
        have k2 : (p : Int) < (m : Int) := by omega
        clear x1 hpv hj0
        obtain ⟨cv, hcv⟩ : ∃ cv, cv = K.getD (p + 1) 0 := ⟨_, rfl⟩
        rw [← hcv] at y1 HE HMs HC hup
        obtain ⟨pw, hpw⟩ : ∃ pw, pw = 2 ^ cv := ⟨_, rfl⟩
        rw [← hpw] at HE HMs HC
        obtain ⟨s, hs⟩ : ∃ s, s = bitK K (p + 1) := ⟨_, rfl⟩
        rw [← hs] at HE HMs
        rw [← hs]
        have U2 : Unit → (s : Int) + (pw : Int) < 18446744073709551616 := fun _ => by omega
        have HEh := Lib.hid HE
        have Y1 := Lib.hid y1
        clear hlt HE HMs hcv hpw hs
        have d3 : decide ((cv : Int) ≤ (pv : Int)) = false := decide_eq_false (by omega)
        have d3' : decide (cv ≤ pv) = false := decide_eq_false (by omega)
        clear hup
        go_wp2_with fail
        go_quiet (fail)
        have y1 := Y1.out
        go_wp2_with fail
        refine (HC.out _).mono ?_
        rintro e w5 ⟨rfl, g⟩
        have B5 := Lib.hid (belowT (belowD HB.out _) g)
        clear g
        have u2 := U2 ()
        go_wp2_with fail
        go_roundw
        case rel => exact ⟨(p + 1) + 1, HLT.out, by go_num, by rw [HEh.out]; first | done | rfl | (rw [Int.natCast_add]), B5.out⟩
        case measure => simp [intOf]; have := HLT.out; omega
    · obtain rfl : j = m := by omega
      clear hlt
      replace A := Lib.hid (A.out.keep HB.out)
      clear HB
      rw [HK4.out]
      have d1 : ((A1 : Int) == (A1 : Int)) = true := by simp
      go_wp2_with fail
      refine (HO.out _ A.out.s).mono ?_
      rintro e w3 ⟨rfl, g⟩
      replace A := Lib.hid (A.out.keep g)
      clear g
      go_wp2_with fail
      refine (HA.out _ A.out.s).mono ?_
      rintro e w4 ⟨rfl, g⟩
      replace A := Lib.hid (A.out.keep g)
      clear g
      go_wp2_with fail
      refine (HX.out _ A.out.s).mono ?_
      rintro e w5 ⟨rfl, g⟩
      replace A := Lib.hid (A.out.keep g)
      clear g
      cases y1
      · skip
        go_wp2_with fail
        refine (HX.out _ A.out.s).mono ?_
        rintro e w6 ⟨rfl, g⟩
        replace A := Lib.hid (A.out.keep g)
        clear g
        go_wp2_with fail
        go_ret
        exact ⟨rfl, A.out.g⟩
      · obtain rfl := E2.out rfl
        obtain rfl := E3.out rfl
        go_wp2_with fail
        refine (HY.out _ A.out.s).mono ?_
        rintro e w6 ⟨rfl, g⟩
        replace A := Lib.hid (A.out.keep g)
        clear g
        go_wp2_with fail
        refine (HX.out _ A.out.s).mono ?_
        rintro e w7 ⟨rfl, g⟩
        replace A := Lib.hid (A.out.keep g)
        clear g
        go_wp2_with fail
        refine (HZ.out _ A.out.s).mono ?_
        rintro e w8 ⟨rfl, g⟩
        replace A := Lib.hid (A.out.keep g)
        clear g
        go_wp2_with fail
        go_ret
        exact ⟨rfl, A.out.g⟩
/-- The law. -/
theorem stakeMoreL (H : StakeC) (vs : Value) (l : List UInt64) (a : UInt64) (b : UInt64) (w : World) (h : SlE Enum w vs l) :
    Calls Try.prog 6 #[vs, .int .u64 (a.toNat : Int), .int .u64 (b.toNat : Int)] w fun e w' => e = .returned (.bool true) ∧ Below w.heap.size w w' := by
  have k := h
  obtain ⟨q, c, rfl, _⟩ := slE_shape h
  exact stakeMore_n H q _ c l a b w k rfl
end Go.Proofs.Ytjjncaojicjfjaa
