/-
  The law StakeTells, walked. (written by wip/gen/law11.py)
-/
import Derived.Test.YtjjncaojicjfjaaW11
namespace Go.Proofs.Ytjjncaojicjfjaa
open Go.RowKit

set_option maxRecDepth 100000 in
set_option maxHeartbeats 8000000 in
theorem stakeTells_n (H : StakeC) (q : Option Addr) (n c : Nat) (l : List UInt64) (m : UInt64) (v : Int) (w : World) (h : SlE Enum w (.slice q n c) l) (hl : l.length = n) :
    Calls Try.prog 3 #[.slice q n c, .int .u64 (m.toNat : Int), .int .i64 v] w fun e w' => e = .returned (.bool true) ∧ Below w.heap.size w w' := by
  have A : Hid (Bw w w (.slice q n c) l) := ⟨h, Below.refl _ _⟩
  have HL := Lib.hid hl
  have HAw := Lib.hid (fun W => awake_any11 H W)
  have H := Lib.hid H
  clear h hl
  go_enter Try.func3, Try.ntmps3
  go_wp2_with fail
  refine (HAw.out _).mono ?_
  rintro e w1 ⟨rfl, g⟩
  replace A := Lib.hid (A.out.keep g)
  clear g
  by_cases h1 : 100 < n
  · have d0 : decide ((100 : Int) < (n : Int)) = true := decide_eq_true (by omega)
    have d0' : decide (100 < n) = true := decide_eq_true h1
    clear h1
    go_wp2_with fail
    go_ret
    exact ⟨rfl, A.out.g⟩
  have d0 : decide ((100 : Int) < (n : Int)) = false := decide_eq_false (by omega)
  have d0' : decide (100 < n) = false := decide_eq_false h1
  have hn : l.length ≤ 1000 := by have := HL.out; omega
  have HW1 := Lib.hid (fun W => H.out.who m W)
  have HW2 := Lib.hid (fun W => (ref11Who m W).mono fun _ _ h => h.list)
  have HM1 := Lib.hid (fun W (g : SlE Enum W (.slice q n c) l) => H.out.may _ l W g)
  have HM2 := Lib.hid (fun W (g : SlE Enum W (.slice q n c) l) => ref11May _ l W g hn)
  have HO1 := Lib.hid (fun W (g : SlE Enum W (.slice q n c) l) => H.out.of _ l m W g)
  have HO2 := Lib.hid (fun W (g : SlE Enum W (.slice q n c) l) => ref11Of _ l m W g hn)
  have HT1 := Lib.hid (fun W (g : SlE Enum W (.slice q n c) l) => H.out.total _ l W g)
  have HT2 := Lib.hid (fun W (g : SlE Enum W (.slice q n c) l) => ref11Total _ l W g hn)
  have HX1 := Lib.hid (fun W (g : SlE Enum W (.slice q n c) l) => H.out.most _ l m W g)
  have HX2 := Lib.hid (fun W (g : SlE Enum W (.slice q n c) l) => ref11Most _ l m W g hn)
  have HS1 := Lib.hid (fun W (g : SlE Enum W (.slice q n c) l) => H.out.some _ l m W g)
  have HS2 := Lib.hid (fun W (g : SlE Enum W (.slice q n c) l) => ref11Some _ l m W g hn)
  have HB1 := Lib.hid (fun W => H.out.bit v W)
  have HB2 := Lib.hid (fun W => ref11Bit v W)
  have HK : Hid ((whoI m).length ≤ 1000) := by show _ ≤ _; have := who_len m; omega
  generalize whoI m = K at *
  generalize mayB l = y1 at *
  generalize ofS l m = y2 at *
  generalize totS l = y3 at *
  generalize mostS l m = y4 at *
  generalize someS l m = y5 at *
  generalize bitN v = y6 at *
  obtain ⟨M, hM⟩ : ∃ M, M = (m.toNat : Int) := ⟨_, rfl⟩
  rw [← hM] at HW1
  rw [← hM] at HW2
  rw [← hM] at HO1
  rw [← hM] at HO2
  rw [← hM] at HX1
  rw [← hM] at HX2
  rw [← hM] at HS1
  rw [← hM] at HS2
  rw [← hM]
  clear hM hn h1
  go_wp2_with fail
  refine (HW1.out _).mono ?_
  rintro e w2 ⟨vc, rfl, hv, g⟩
  replace A := Lib.hid (A.out.keep g)
  have SC := Lib.hid hv
  clear hv
  clear g
  go_wp2_with fail
  refine (HW2.out _).mono ?_
  rintro e w3 ⟨vd, rfl, hv, g⟩
  replace A := Lib.hid (A.out.keep g)
  replace SC := Lib.hid (slE_keep g SC.out)
  have SD := Lib.hid hv
  clear hv
  clear g
  have hsm := ref04Ints vc vd K K _ SC.out SD.out HK.out
  rw [decide_eq_true rfl] at hsm
  go_wp2_with fail
  refine hsm.mono ?_
  rintro e w4 ⟨rfl, g⟩
  clear hsm
  replace A := Lib.hid (A.out.keep g)
  replace SC := Lib.hid (slE_keep g SC.out)
  replace SD := Lib.hid (slE_keep g SD.out)
  clear g
  clear SC SD
  go_wp2_with fail
  refine (HM2.out _ A.out.s).mono ?_
  rintro e w5 ⟨rfl, g⟩
  replace A := Lib.hid (A.out.keep g)
  clear g
  go_wp2_with fail
  refine (HX2.out _ A.out.s).mono ?_
  rintro e w6 ⟨rfl, g⟩
  replace A := Lib.hid (A.out.keep g)
  clear g
  go_wp2_with fail
  refine (HS2.out _ A.out.s).mono ?_
  rintro e w7 ⟨rfl, g⟩
  replace A := Lib.hid (A.out.keep g)
  clear g
  go_wp2_with fail
  refine (HM1.out _ A.out.s).mono ?_
  rintro e w8 ⟨rfl, g⟩
  replace A := Lib.hid (A.out.keep g)
  clear g
  go_wp2_with fail
  refine (HT1.out _ A.out.s).mono ?_
  rintro e w9 ⟨rfl, g⟩
  replace A := Lib.hid (A.out.keep g)
  clear g
  go_wp2_with fail
  refine (HT2.out _ A.out.s).mono ?_
  rintro e w10 ⟨rfl, g⟩
  replace A := Lib.hid (A.out.keep g)
  clear g
  go_wp2_with fail
  refine (HO1.out _ A.out.s).mono ?_
  rintro e w11 ⟨rfl, g⟩
  replace A := Lib.hid (A.out.keep g)
  clear g
  go_wp2_with fail
  refine (HO2.out _ A.out.s).mono ?_
  rintro e w12 ⟨rfl, g⟩
  replace A := Lib.hid (A.out.keep g)
  clear g
  go_wp2_with fail
  refine (HX1.out _ A.out.s).mono ?_
  rintro e w13 ⟨rfl, g⟩
  replace A := Lib.hid (A.out.keep g)
  clear g
  go_wp2_with fail
  refine (HS1.out _ A.out.s).mono ?_
  rintro e w14 ⟨rfl, g⟩
  replace A := Lib.hid (A.out.keep g)
  clear g
  go_wp2_with fail
  refine (HB1.out _).mono ?_
  rintro e w15 ⟨rfl, g⟩
  replace A := Lib.hid (A.out.keep g)
  clear g
  go_wp2_with fail
  refine (HB2.out _).mono ?_
  rintro e w16 ⟨rfl, g⟩
  replace A := Lib.hid (A.out.keep g)
  clear g
  go_wp2_with fail
  go_ret
  exact ⟨rfl, A.out.g⟩
/-- The law. -/
theorem stakeTellsL (H : StakeC) (vs : Value) (l : List UInt64) (m : UInt64) (v : Int) (w : World) (h : SlE Enum w vs l) :
    Calls Try.prog 3 #[vs, .int .u64 (m.toNat : Int), .int .i64 v] w fun e w' => e = .returned (.bool true) ∧ Below w.heap.size w w' := by
  have k := h
  obtain ⟨q, c, rfl, _⟩ := slE_shape h
  exact stakeTells_n H q _ c l m v w k rfl
end Go.Proofs.Ytjjncaojicjfjaa
