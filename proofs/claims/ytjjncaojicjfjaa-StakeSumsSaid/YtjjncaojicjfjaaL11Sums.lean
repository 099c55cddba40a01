/-
  The law StakeSums, walked. (written by wip/gen/law11.py)
-/
import Derived.Test.YtjjncaojicjfjaaW11
import Derived.Test.YtjjncaojicjfjaaStakeR
namespace Go.Proofs.Ytjjncaojicjfjaa
open Go.RowKit

set_option maxRecDepth 100000 in
set_option maxHeartbeats 8000000 in
theorem stakeSums_n (H : StakeC) (q : Option Addr) (n c : Nat) (l : List UInt64) (a : UInt64) (w : World) (h : SlE Enum w (.slice q n c) l) (hl : l.length = n) :
    Calls Try.prog 7 #[.slice q n c, .int .u64 (a.toNat : Int)] w fun e w' => e = .returned (.bool true) ∧ Below w.heap.size w w' := by
  have A : Hid (Bw w w (.slice q n c) l) := ⟨h, Below.refl _ _⟩
  have HL := Lib.hid hl
  have HAw := Lib.hid (fun W => awake_any11 H W)
  have H := Lib.hid H
  clear h hl
  go_enter Try.func7, Try.ntmps7
  go_wp2_with fail
  refine (HAw.out _).mono ?_
  rintro e w1 ⟨rfl, g⟩
  replace A := Lib.hid (A.out.keep g)
  clear g
  have HWh := Lib.hid (fun W => H.out.who a W)
  have HMy := Lib.hid (fun W (g : SlE Enum W (.slice q n c) l) => H.out.may _ l W g)
  have HO := Lib.hid (fun W (g : SlE Enum W (.slice q n c) l) => H.out.of _ l a W g)
  have HK1 : Hid ((whoI a).length = (whoT a).length) := Lib.hid (whoI_len a)
  have HK2 : Hid (∀ q, q < (whoT a).length → (whoI a).getD q 0 = ((whoT a).getD q 0 : Int)) := fun q hq => whoI_at hq
  have HK5 : Hid ((whoT a).length ≤ 64) := by show _ ≤ _; rw [← whoI_len]; exact who_len a
  go_wp2_with fail
  refine (HWh.out _).mono ?_
  rintro e w2 ⟨vk, rfl, hv, g⟩
  replace A := Lib.hid (A.out.keep g)
  obtain ⟨pk, ck, rfl⟩ := slE_len hv HK1.out
  have SK := Lib.hid hv
  clear hv
  clear g
  go_wp2_with fail
  refine (HMy.out _ A.out.s).mono ?_
  rintro e w3 ⟨rfl, g⟩
  replace A := Lib.hid (A.out.keep g)
  replace SK := Lib.hid (slE_keep g SK.out)
  clear g
  by_cases hm : mayB l = true
  case neg =>
    have hm' : mayB l = false := by simpa using hm
    rw [hm']
    rw [ofS_no hm'] at HO
    clear hm hm'
    go_wp2_with fail
    refine (HO.out _ A.out.s).mono ?_
    rintro e w4 ⟨rfl, g⟩
    replace A := Lib.hid (A.out.keep g)
    replace SK := Lib.hid (slE_keep g SK.out)
    clear g
    go_wp2_with fail
    go_ret
    exact ⟨rfl, A.out.g⟩
  rw [hm]
  have HK4 := ofK_who hm a
  have hlt8 := ofS_lt (bal := l) (mask := a)
  have hn8 := (mayB_iff.1 hm).2.1
  rw [← HK4] at hlt8 HO
  generalize whoI a = KI at *
  generalize whoT a = K at *
  obtain ⟨m, hmk⟩ : ∃ m, m = K.length := ⟨_, rfl⟩
  have HM : Hid (∀ q, q ≤ m → ofK (fn l) n K q ≤ 8796093022208) := fun q hq => by have := ofK_mono (f := fn l) (n := l.length) (K := K) (q := q) (by rw [← hmk]; exact hq) (Nat.le_refl K.length); rw [← HL.out]; omega
  rw [← hmk] at HK1 HK2 HK5 HO
  rw [HL.out] at HO
  have Hm := Lib.hid hmk
  have HN : Hid (n ≤ 8) := by show n ≤ 8; have := HL.out; omega
  clear hm HK4 hlt8 hn8 hmk
  rw [← Hm.out]
  go_wp2_with fail
  go_loopw [7, 8] (fun s i wr => ∃ j : Nat, j ≤ m ∧ i = .int .i64 (j : Int) ∧ s = .int .u64 (ofK (fn l) n K j : Int) ∧ wr = w3) (fun _ i _ => m - (intOf i).toNat)
  case atStart => exact ⟨0, Nat.zero_le _, rfl, rfl, rfl⟩
  case round =>
    obtain ⟨j, hj, rfl, rfl, rfl⟩ := hrel
    by_cases hlt : j < m
    · have i0 : (0 : Int) ≤ (j : Int) := by omega
      have i1 : (j : Int) < (m : Int) := by omega
      have u1 : (j : Int) + 1 < 10000 := by have := HK5.out; omega
      obtain ⟨b1, o1, rfl, _, x1⟩ := ints_ptr SK.out (by rw [HK1.out]; omega)
      have y1 := ints_at x1 (i := j) (by rw [HK1.out]; exact hlt)
      rw [HK2.out j hlt] at y1
      have HMs := HM.out (j + 1) hlt
      have HLT := Lib.hid hlt
      have HE1 := fun h => ofK_yes (f := fn l) (n := n) (K := K) (q := j) (by rw [← Hm.out]; exact hlt) h
      have HE2 := fun h => ofK_no (f := fn l) (n := n) (K := K) (q := j) (by rw [← Hm.out]; exact hlt) h
      obtain ⟨cv, hcv⟩ : ∃ cv, cv = K.getD j 0 := ⟨_, rfl⟩
      rw [← hcv] at y1 HE1 HE2
      have c0 : decide ((0 : Int) ≤ (cv : Int)) = true := decide_eq_true (by omega)
      clear x1 hcv
      by_cases hc : cv < n
      · have c1 : decide ((cv : Int) < (n : Int)) = true := decide_eq_true (by omega)
        have c1' : decide (cv < n) = true := decide_eq_true hc
        have HE := HE1 hc
        rw [HE] at HMs
        obtain ⟨b2, o2, rfl, _, x2⟩ := nums_ptr A.out.s (by have := HL.out; omega)
        have y2 := nums_cell x2 (i := cv) (by have := HL.out; omega)
        generalize fn l cv = y at *
        obtain ⟨s, hs⟩ : ∃ s, s = ofK (fn l) n K j := ⟨_, rfl⟩
        rw [← hs] at HE HMs
        rw [← hs]
        have k0 : (0 : Int) ≤ (cv : Int) := by omega
        have k1 : (cv : Int) < (n : Int) := by omega
        have u2 : (s : Int) + (y : Int) < 18446744073709551616 := by omega
        have HEh := Lib.hid HE
        clear hlt HE HE1 HE2 HMs hc hs x2
        go_wp2_with fail
        go_roundw
        case rel => exact ⟨j + 1, HLT.out, by go_num, by rw [HEh.out]; first | done | rfl | (rw [Int.natCast_add]), by first | rfl | trivial⟩
        case measure => simp [intOf]; have := HLT.out; omega
      · have c1 : decide ((cv : Int) < (n : Int)) = false := decide_eq_false (by omega)
        have c1' : decide (cv < n) = false := decide_eq_false hc
        have HEh := Lib.hid (HE2 hc)
        clear hlt HE1 HE2 HMs hc
        go_wp2_with fail
        go_roundw
        case rel => exact ⟨j + 1, HLT.out, by go_num, by rw [HEh.out], by first | rfl | trivial⟩
        case measure => simp [intOf]; have := HLT.out; omega
    · obtain rfl : j = m := by omega
      clear hlt
      generalize ofK (fn l) n K j = o at *
      have d1 : ((o : Int) == (o : Int)) = true := by simp
      go_wp2_with fail
      refine (HO.out _ A.out.s).mono ?_
      rintro e w4 ⟨rfl, g⟩
      replace A := Lib.hid (A.out.keep g)
      clear g
      go_wp2_with fail
      go_ret
      exact ⟨rfl, A.out.g⟩
/-- The law. -/
theorem stakeSumsL (H : StakeC) (vs : Value) (l : List UInt64) (a : UInt64) (w : World) (h : SlE Enum w vs l) :
    Calls Try.prog 7 #[vs, .int .u64 (a.toNat : Int)] w fun e w' => e = .returned (.bool true) ∧ Below w.heap.size w w' := by
  have k := h
  obtain ⟨q, c, rfl, _⟩ := slE_shape h
  exact stakeSums_n H q _ c l a w k rfl
end Go.Proofs.Ytjjncaojicjfjaa
