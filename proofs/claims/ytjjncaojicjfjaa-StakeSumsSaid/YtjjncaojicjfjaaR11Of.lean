/-
  The document's balances: Who, Of, Total, Most, Some, walked.
-/
import Derived.Test.YtjjncaojicjfjaaR11May
import Derived.Test.YtjjncaojicjfjaaR01Most
import Derived.Test.YtjjncaojicjfjaaIntU
namespace Go.Proofs.Ytjjncaojicjfjaa
open Go.RowKit

set_option maxRecDepth 100000 in
set_option maxHeartbeats 4000000 in
theorem ref11Who (mask : UInt64) (w : World) :
    Calls Try.prog 12 #[.int .u64 (mask.toNat : Int)] w (IntsIs (whoI mask) w) := by
  have HH := Lib.hid (fun (v : Nat) (hv : v < 64) W => ref11HasN mask hv W)
  obtain ⟨m, hm⟩ : ∃ m, m = (mask.toNat : Int) := ⟨_, rfl⟩
  rw [← hm] at HH
  rw [← hm]
  clear hm
  go_enter Try.func12, Try.ntmps12
  go_wp2_with fail
  go_loopw [3, 4] (fun v i wr => ∃ j : Nat, j ≤ 64 ∧ i = .int .i64 (j : Int) ∧ OwnE Eint wr w.heap.size v (whoUp mask j) ∧ Below w.heap.size w wr) (fun _ i _ => 64 - (intOf i).toNat)
  case atStart => exact ⟨0, Nat.zero_le _, rfl, ownE_nil _ _ _, Below.refl _ _⟩
  case round =>
    obtain ⟨j, hj, rfl, hown, hb⟩ := hrel
    have HO := Lib.hid hown
    have HB := Lib.hid hb
    obtain ⟨m1, hm1⟩ : ∃ m1, m1 = (whoUp mask j).length := ⟨_, rfl⟩
    have HM1 : Hid ((whoUp mask j).length = m1 ∧ m1 ≤ 64) := ⟨hm1.symm, by have := whoUp_len mask j; omega⟩
    obtain ⟨pv, cv, rfl⟩ := ownE_len hown hm1.symm
    clear hown hb hm1
    by_cases hlt : j < 64
    · have d0 : decide ((j : Int) < 64) = true := decide_eq_true (by omega)
      have d0' : decide (j < 64) = true := decide_eq_true hlt
      have u1 : (j : Int) + 1 < 10000 := by omega
      have HC := Lib.hid (HH.out j hlt wr)
      obtain ⟨b, hb⟩ : ∃ b, b = hasB mask j := ⟨_, rfl⟩
      rw [← hb] at HC
      have HBb := Lib.hid hb
      have HLT := Lib.hid hlt
      clear hlt hb
      go_wp2_with fail
      refine HC.out.mono ?_
      rintro e w2 ⟨rfl, g⟩
      have O2 := Lib.hid (ownE_keep g HO.out)
      have B2 := Lib.hid (belowT HB.out g)
      clear g
      cases b
      · have HE : Hid (whoUp mask (j + 1) = whoUp mask j) := Lib.hid (whoUp_no HBb.out.symm)
        go_wp2_with fail
        go_roundw
        case rel => exact ⟨j + 1, HLT.out, by go_num, by rw [HE.out]; exact O2.out, B2.out⟩
        case measure => simp [intOf]; have := HLT.out; omega
      · have HE : Hid (whoUp mask (j + 1) = whoUp mask j ++ [(j : Int)]) := Lib.hid (whoUp_yes HBb.out.symm)
        have Z2 : Hid (w.heap.size ≤ w2.heap.size) := B2.out.size
        go_wp2_with (at_builtin; refine wpList_append_E Kint _ rfl (.tmp 14) (.tmp 16) rfl w.heap.size _ _ rfl (ownE_alloc O2.out _) _ [(j : Int)] rfl (slE_lit _ [(j : Int)] 1 _ _ _ rfl rfl (by simp [cellsE, Eint])) (by have := HM1.out; simp; omega) (by have := Z2.out; simp; omega) ?_; intro v4 w4 ho4 hg4)
        go_roundw
        case rel => exact ⟨j + 1, HLT.out, by go_num, by rw [HE.out]; exact ho4, B2.out.trans ((Gr.alloc hg4).own O2.out Z2.out)⟩
        case measure => simp [intOf]; have := HLT.out; omega
    · obtain rfl : j = 64 := by omega
      clear hlt
      go_wp2_with fail
      go_ret
      exact ⟨_, rfl, by rw [← whoUp_all]; exact HO.out, HB.out⟩
theorem enters_ref11Who : ∀ args w, (callFunc 12 args).run Try.prog w = .ok (.enter 12 args) w := entersE Try.func12 (by kernel_rfl) (by kernel_rfl)

set_option maxRecDepth 100000 in
set_option maxHeartbeats 4000000 in
theorem ref11Of_n (p : Option Addr) (n cp : Nat) (l : List UInt64) (mask : UInt64) (w : World) (h : SlE Enum w (.slice p n cp) l) (hl : l.length = n) (hn : n ≤ 1000) :
    Calls Try.prog 20 #[.slice p n cp, .int .u64 (mask.toNat : Int)] w fun e w' => e = .returned (.int .u64 (ofS l mask : Int)) ∧ Below w.heap.size w w' := by
  have HMy := Lib.hid (ref11May (.slice p n cp) l w h (by omega))
  have HH := Lib.hid (fun (v : Nat) (hv : v < 64) W => ref11HasN mask hv W)
  obtain ⟨m, hm⟩ : ∃ m, m = (mask.toNat : Int) := ⟨_, rfl⟩
  rw [← hm] at HH
  rw [← hm]
  have HS := Lib.hid h
  have HL := Lib.hid hl
  obtain ⟨b, hb⟩ : ∃ b, b = mayB l := ⟨_, rfl⟩
  rw [← hb] at HMy
  have HBb := Lib.hid hb
  clear hm h hl hn hb
  go_enter Try.func20, Try.ntmps20
  go_wp2_with fail
  refine HMy.out.mono ?_
  rintro e w1 ⟨rfl, g1⟩
  have G1 := Lib.hid g1
  clear g1
  cases b
  · have HE : Hid (ofS l mask = 0) := Lib.hid (ofS_no HBb.out.symm)
    go_wp2_with fail
    go_loopw [5, 7] (fun o i wr => i = .int .i64 0 ∧ o = .int .u64 0 ∧ wr = w1) (fun _ _ _ => 0)
    case atStart => exact ⟨rfl, rfl, rfl⟩
    case round =>
      obtain ⟨rfl, rfl, rfl⟩ := hrel
      by_cases h0 : 0 < n
      · have d0 : decide ((0 : Int) < (n : Int)) = true := decide_eq_true (by omega)
        have d1 : decide (0 < n) = true := decide_eq_true h0
        clear h0
        go_wp2_with fail
        go_ret
        exact ⟨by rw [HE.out]; first | done | rfl, G1.out⟩
      · have d0 : decide ((0 : Int) < (n : Int)) = false := decide_eq_false (by omega)
        have d1 : decide (0 < n) = false := decide_eq_false h0
        clear h0
        go_wp2_with fail
        go_ret
        exact ⟨by rw [HE.out]; first | done | rfl, G1.out⟩
  · have hmay := HBb.out.symm
    have HE : Hid (ofS l mask = ofN (fn l) n mask) := by show _ = _; rw [ofS_yes hmay, HL.out]
    have HPt : Hid (∀ k, k ≤ n → ofN (fn l) k mask ≤ 8796093022208) := fun k hk => of_part hmay (by rw [HL.out]; exact hk)
    have HN : Hid (n ≤ 8) := by show n ≤ 8; have := (mayB_iff.1 hmay).2.1; rw [HL.out] at this; exact this
    clear hmay
    go_wp2_with fail
    go_loopw [5, 7] (fun o i wr => ∃ j : Nat, j ≤ n ∧ i = .int .i64 (j : Int) ∧ o = .int .u64 (ofN (fn l) j mask : Int) ∧ Below w1.heap.size w1 wr) (fun _ i _ => n - (intOf i).toNat)
    case atStart => exact ⟨0, Nat.zero_le _, rfl, rfl, Below.refl _ _⟩
    case round =>
      obtain ⟨j, hj, rfl, rfl, hb⟩ := hrel
      have HB := Lib.hid hb
      clear hb
      by_cases hlt : j < n
      · have i0 : (0 : Int) ≤ (j : Int) := by omega
        have i1 : (j : Int) < (n : Int) := by omega
        have u1 : (j : Int) + 1 < 10000 := by have := HN.out; omega
        have HC := Lib.hid (HH.out j (by have := HN.out; omega) wr)
        obtain ⟨b, hb⟩ : ∃ b, b = hasB mask j := ⟨_, rfl⟩
        rw [← hb] at HC
        have HBb2 := Lib.hid hb
        have HLT := Lib.hid hlt
        have ps := HPt.out (j + 1) hlt
        obtain ⟨o, ho⟩ : ∃ o, o = ofN (fn l) j mask := ⟨_, rfl⟩
        obtain ⟨y, hy⟩ : ∃ y, y = fn l j := ⟨_, rfl⟩
        have HYo : Hid (hasB mask j = true → ofN (fn l) (j + 1) mask = o + y) := fun e => by rw [ho, hy]; exact of_succ_yes _ e
        have HNo : Hid (hasB mask j = false → ofN (fn l) (j + 1) mask = o) := fun e => by rw [ho]; exact of_succ_no _ e
        have HSum : Hid (hasB mask j = true → o + y ≤ 8796093022208) := fun e => by rw [← HYo.out e]; exact ps
        have HY := Lib.hid hy
        rw [← ho]
        clear hlt hb ho hy ps
        go_wp2_with fail
        refine HC.out.mono ?_
        rintro e w2 ⟨rfl, g⟩
        have B2 := Lib.hid (belowT HB.out g)
        clear g
        cases b
        · have HX := Lib.hid (HNo.out HBb2.out.symm)
          go_wp2_with fail
          go_roundw
          case rel => exact ⟨j + 1, HLT.out, by go_num, by rw [HX.out], B2.out⟩
          case measure => simp [intOf]; have := HLT.out; omega
        · have HX := Lib.hid (HYo.out HBb2.out.symm)
          have hsum := HSum.out HBb2.out.symm
          obtain ⟨b1, o1, rfl, q1, x1⟩ := nums_ptr (slE_keep (belowT G1.out B2.out) HS.out) (by have := HL.out; have := HLT.out; omega)
          have y1 := nums_cell x1 (i := j) (by have := HL.out; have := HLT.out; omega)
          rw [← HY.out] at y1
          have u2 : (o : Int) + (y : Int) < 18446744073709551616 := by omega
          clear hsum x1 q1
          go_wp2_with fail
          go_roundw
          case rel => exact ⟨j + 1, HLT.out, by go_num, by rw [HX.out]; first | done | rfl | (rw [Int.natCast_add]), B2.out⟩
          case measure => simp [intOf]; have := HLT.out; omega
      · obtain rfl : j = n := by omega
        clear hlt
        go_wp2_with fail
        go_ret
        exact ⟨by rw [HE.out]; first | done | rfl, belowT G1.out HB.out⟩
theorem ref11Of (v : Value) (l : List UInt64) (mask : UInt64) (w : World) (h : SlE Enum w v l) (hn : l.length ≤ 1000) :
    Calls Try.prog 20 #[v, .int .u64 (mask.toNat : Int)] w fun e w' => e = .returned (.int .u64 (ofS l mask : Int)) ∧ Below w.heap.size w w' := by
  have k := h
  obtain ⟨p, cp, rfl, _⟩ := slE_shape h
  exact ref11Of_n p _ cp l mask w k rfl hn
theorem enters_ref11Of : ∀ args w, (callFunc 20 args).run Try.prog w = .ok (.enter 20 args) w := entersE Try.func20 (by kernel_rfl) (by kernel_rfl)

set_option maxHeartbeats 1000000 in
theorem ref11Total (v : Value) (l : List UInt64) (w : World) (h : SlE Enum w v l) (hn : l.length ≤ 1000) :
    Calls Try.prog 18 #[v] w fun e w' => e = .returned (.int .u64 (totS l : Int)) ∧ Below w.heap.size w w' := by
  have HC := Lib.hid (ref11Of v l allM w h hn)
  rw [show ((allM.toNat : Nat) : Int) = 18446744073709551615 from rfl] at HC
  obtain ⟨t, ht⟩ : ∃ t, t = totS l := ⟨_, rfl⟩
  rw [show ofS l allM = t from ht.symm] at HC
  rw [← ht]
  clear h hn ht
  go_enter Try.func18, Try.ntmps18
  go_wp2_with fail
  refine HC.out.mono ?_
  rintro e w1 ⟨rfl, g⟩
  go_wp2_with fail
  go_ret
  exact ⟨rfl, g⟩
theorem enters_ref11Total : ∀ args w, (callFunc 18 args).run Try.prog w = .ok (.enter 18 args) w := entersE Try.func18 (by kernel_rfl) (by kernel_rfl)

set_option maxHeartbeats 1000000 in
theorem ref11Most (v : Value) (l : List UInt64) (mask : UInt64) (w : World) (h : SlE Enum w v l) (hn : l.length ≤ 1000) :
    Calls Try.prog 14 #[v, .int .u64 (mask.toNat : Int)] w fun e w' => e = .returned (.bool (mostS l mask)) ∧ Below w.heap.size w w' := by
  have HM := Lib.hid (ref11May v l w h hn)
  have HO := Lib.hid (fun W (g : Below w.heap.size w W) => ref11Of v l mask W (slE_keep g h) hn)
  have HT := Lib.hid (fun W (g : Below w.heap.size w W) => ref11Total v l W (slE_keep g h) hn)
  have HX := Lib.hid (fun W => ref01Most (ofS l mask) (totS l) (by have : totS l ≤ 8796093022208 := ofS_lt; omega) W)
  obtain ⟨m, hm⟩ : ∃ m, m = (mask.toNat : Int) := ⟨_, rfl⟩
  rw [← hm] at HO
  rw [← hm]
  have he : mostS l mask = (mayB l && mostN (ofS l mask) (totS l)) := rfl
  rw [he]
  generalize mostN (ofS l mask) (totS l) = r at *
  generalize ofS l mask = o at *
  generalize totS l = t at *
  generalize mayB l = b at *
  clear h hn hm he
  go_enter Try.func14, Try.ntmps14
  go_wp2_with fail
  refine HM.out.mono ?_
  rintro e w1 ⟨rfl, g1⟩
  have G1 := Lib.hid g1
  clear g1
  go_wp2_with fail
  refine (HO.out _ G1.out).mono ?_
  rintro e w2 ⟨rfl, g⟩
  have G2 := Lib.hid (belowT G1.out g)
  clear g
  go_wp2_with fail
  refine (HT.out _ G2.out).mono ?_
  rintro e w3 ⟨rfl, g⟩
  have G3 := Lib.hid (belowT G2.out g)
  clear g
  go_wp2_with fail
  refine (HX.out _).mono ?_
  rintro e w4 ⟨rfl, g⟩
  have G4 := Lib.hid (belowT G3.out g)
  clear g
  cases b <;> cases r <;> (
    go_wp2_with fail
    go_ret
    exact ⟨rfl, G4.out⟩)
theorem enters_ref11Most : ∀ args w, (callFunc 14 args).run Try.prog w = .ok (.enter 14 args) w := entersE Try.func14 (by kernel_rfl) (by kernel_rfl)

set_option maxHeartbeats 1000000 in
theorem ref11Some (v : Value) (l : List UInt64) (mask : UInt64) (w : World) (h : SlE Enum w v l) (hn : l.length ≤ 1000) :
    Calls Try.prog 15 #[v, .int .u64 (mask.toNat : Int)] w fun e w' => e = .returned (.bool (someS l mask)) ∧ Below w.heap.size w w' := by
  have HM := Lib.hid (ref11May v l w h hn)
  have HO := Lib.hid (fun W (g : Below w.heap.size w W) => ref11Of v l mask W (slE_keep g h) hn)
  have HT := Lib.hid (fun W (g : Below w.heap.size w W) => ref11Total v l W (slE_keep g h) hn)
  have HX := Lib.hid (fun W => ref01Some (ofS l mask) (totS l) (by have : totS l ≤ 8796093022208 := ofS_lt; omega) W)
  obtain ⟨m, hm⟩ : ∃ m, m = (mask.toNat : Int) := ⟨_, rfl⟩
  rw [← hm] at HO
  rw [← hm]
  have he : someS l mask = (mayB l && someN (ofS l mask) (totS l)) := rfl
  rw [he]
  generalize someN (ofS l mask) (totS l) = r at *
  generalize ofS l mask = o at *
  generalize totS l = t at *
  generalize mayB l = b at *
  clear h hn hm he
  go_enter Try.func15, Try.ntmps15
  go_wp2_with fail
  refine HM.out.mono ?_
  rintro e w1 ⟨rfl, g1⟩
  have G1 := Lib.hid g1
  clear g1
  go_wp2_with fail
  refine (HO.out _ G1.out).mono ?_
  rintro e w2 ⟨rfl, g⟩
  have G2 := Lib.hid (belowT G1.out g)
  clear g
  go_wp2_with fail
  refine (HT.out _ G2.out).mono ?_
  rintro e w3 ⟨rfl, g⟩
  have G3 := Lib.hid (belowT G2.out g)
  clear g
  go_wp2_with fail
  refine (HX.out _).mono ?_
  rintro e w4 ⟨rfl, g⟩
  have G4 := Lib.hid (belowT G3.out g)
  clear g
  cases b <;> cases r <;> (
    go_wp2_with fail
    go_ret
    exact ⟨rfl, G4.out⟩)
theorem enters_ref11Some : ∀ args w, (callFunc 15 args).run Try.prog w = .ok (.enter 15 args) w := entersE Try.func15 (by kernel_rfl) (by kernel_rfl)
end Go.Proofs.Ytjjncaojicjfjaa
