/-
  Package skip: climb, walked, whatever function it is handed.
-/
import Derived.Test.YtnmljjmaejmlfaaP07Row
import Derived.Deep.QuietTactic
import Derived.BigQuiet
namespace Go.Proofs.Ytnmljjmaejmlfaa
open Go.RowKit

set_option maxRecDepth 100000 in
set_option maxHeartbeats 4000000 in
theorem skipClimb (g : Nat) (lb : Array Value) (eg : ∀ args w, (callFunc g args).run Try.prog w = .ok (.enter g args) w) (p : Option Addr) (n cp : Nat) (l : List Nd) (i D : Nat) (w : World) (h : SlE Eqd w (.slice p n cp) (tabUp l n)) (hl : l.length = n) (hm : MayT l) (hi : i < n) (hD : D ≤ deepT l i)
    (hp : ∀ (m y : Nat) (W : World), 1 ≤ m → m ≤ deepT l i → upT l m i = (y : Int) → Below w.heap.size w W → Calls Try.prog g (#[.int .i64 (y : Int)] ++ lb) W fun e W' => e = .returned (.bool (decide (m ≤ D))) ∧ Below W.heap.size W W') :
    Calls Try.prog 29 #[.slice p n cp, .int .i64 (i : Int), .func (.func g) #[] lb] w fun e w' => ∃ x : Nat, e = .returned (.tuple #[.int .i64 (x : Int), .int .i64 (D : Int)]) ∧ upT l D i = (x : Int) ∧ x < n ∧ Below w.heap.size w w' := by
  have HS := Lib.hid h
  have HM := Lib.hid hm
  have HI := Lib.hid hi
  have HL := Lib.hid hl
  have HD := Lib.hid hD
  have HPs := Lib.hid hp
  have HDS : Hid (D < 16) := by show D < 16; have := deep_small hm (i := i) (by omega); omega
  have HN : Hid (n ≤ 12) := by show n ≤ 12; have := hm.le; omega
  obtain ⟨b1, o1, c1, e1, _, hb1, x1⟩ := slE_ne h (by rw [tabUp_len]; omega)
  have e1' : p = some ⟨b1, o1, none⟩ := by injection e1
  subst e1'
  have X1 := Lib.hid x1
  clear h hm hi hl hD hp e1 hb1 x1
  go_enter Try.func29, Try.ntmps29
  go_wp2_with fail
  go_loopw [6, 7, 12] (fun la fa k wr => ∃ (j far x : Nat), j ≤ 4 ∧ k = .int .i64 (j : Int) ∧ la = .int .i64 (x : Int) ∧ fa = .int .i64 (far : Int) ∧ upT l far i = (x : Int) ∧ x < n ∧ far ≤ D ∧ D < far + 2 ^ (4 - j) ∧ Below w.heap.size w wr) (fun _ _ k _ => 4 - (intOf k).toNat)
  case atStart => exact ⟨0, 0, i, by omega, rfl, rfl, rfl, rfl, HI.out, Nat.zero_le _, by have := HDS.out; omega, Below.refl _ _⟩
  case round =>
    obtain ⟨j, far, x, hj, rfl, rfl, rfl, hu, hx, hf, hd, hb⟩ := hrel
    have HU := Lib.hid hu
    have HX := Lib.hid hx
    have HF := Lib.hid hf
    have HB := Lib.hid hb
    have i0 : (0 : Int) ≤ (x : Int) := by omega
    have i1 : (x : Int) < (n : Int) := by omega
    have hj' : j = 0 ∨ j = 1 ∨ j = 2 ∨ j = 3 ∨ j = 4 := by omega
    clear hj hu hx hf hb
    rcases hj' with rfl | rfl | rfl | rfl | rfl
    · have HDD : Hid (D < far + 16) := hd
      have y1 := qd_cell (keepR HB.out X1.out) (tabUp_at l HX.out) (j := 3) (by omega)
      rw [qat_leap l x (by omega)] at y1
      clear hd
      rcases climb_step HM.out (by have := HI.out; have := HL.out; omega) HD.out HU.out 3 with ⟨el, hlt⟩ | ⟨y, el, hy, eu, h1, h2⟩
      · rw [el] at y1
        have HLT : Hid (D < far + 8) := hlt
        clear el hlt
        go_wp2_with fail
        go_roundw
        case rel => exact ⟨1, far, x, by omega, by go_num, rfl, rfl, HU.out, HX.out, HF.out, HLT.out, HB.out⟩
        case measure => simp [intOf]
      · rw [el] at y1
        have t1 : ((y : Int) != -1) = true := by simp
        have HY : Hid (y < n) := by show y < n; have := HL.out; omega
        have HE : Hid (upT l (far + 8) i = (y : Int)) := eu
        have HQ : Hid (Calls Try.prog g (#[.int .i64 (y : Int)] ++ lb) wr fun e W' => e = .returned (.bool (decide (far + 8 ≤ D))) ∧ Below wr.heap.size wr W') := HPs.out (far + 8) y wr h1 h2 eu HB.out
        clear el hy eu h1 h2
        go_wp2_with fail
        obtain ⟨r, hr⟩ : ∃ r, r = decide (far + 8 ≤ D) := ⟨_, rfl⟩
        rw [← hr] at HQ
        have HR := Lib.hid hr
        clear hr
        refine HQ.out.mono ?_
        rintro e w2 ⟨rfl, g2⟩
        have G2 := Lib.hid (belowT HB.out g2)
        clear g2 y1
        have u1 : (far : Int) + 8 < 10000 := by have := HF.out; have := HDS.out; omega
        have u2 : (0 : Int) ≤ (far : Int) := by omega
        cases r
        · have HLT : Hid (D < far + 8) := by show D < far + 8; have := HR.out; simpa using this
          go_wp2_with fail
          go_roundw
          case rel => exact ⟨1, far, x, by omega, by go_num, rfl, rfl, HU.out, HX.out, HF.out, HLT.out, G2.out⟩
          case measure => simp [intOf]
        · have HLE : Hid (far + 8 ≤ D) := by show far + 8 ≤ D; have := HR.out; simpa using this
          go_wp2_with fail
          go_quiet (fail)
          go_wp2_with fail
          go_roundw
          case rel => exact ⟨1, far + 8, y, by omega, by go_num, rfl, by go_num, HE.out, HY.out, HLE.out, by have := HDD.out; show D < far + 8 + 8; omega, belowD G2.out _⟩
          case measure => simp [intOf]
    · have HDD : Hid (D < far + 8) := hd
      have y1 := qd_cell (keepR HB.out X1.out) (tabUp_at l HX.out) (j := 2) (by omega)
      rw [qat_leap l x (by omega)] at y1
      clear hd
      rcases climb_step HM.out (by have := HI.out; have := HL.out; omega) HD.out HU.out 2 with ⟨el, hlt⟩ | ⟨y, el, hy, eu, h1, h2⟩
      · rw [el] at y1
        have HLT : Hid (D < far + 4) := hlt
        clear el hlt
        go_wp2_with fail
        go_roundw
        case rel => exact ⟨2, far, x, by omega, by go_num, rfl, rfl, HU.out, HX.out, HF.out, HLT.out, HB.out⟩
        case measure => simp [intOf]
      · rw [el] at y1
        have t1 : ((y : Int) != -1) = true := by simp
        have HY : Hid (y < n) := by show y < n; have := HL.out; omega
        have HE : Hid (upT l (far + 4) i = (y : Int)) := eu
        have HQ : Hid (Calls Try.prog g (#[.int .i64 (y : Int)] ++ lb) wr fun e W' => e = .returned (.bool (decide (far + 4 ≤ D))) ∧ Below wr.heap.size wr W') := HPs.out (far + 4) y wr h1 h2 eu HB.out
        clear el hy eu h1 h2
        go_wp2_with fail
        obtain ⟨r, hr⟩ : ∃ r, r = decide (far + 4 ≤ D) := ⟨_, rfl⟩
        rw [← hr] at HQ
        have HR := Lib.hid hr
        clear hr
        refine HQ.out.mono ?_
        rintro e w2 ⟨rfl, g2⟩
        have G2 := Lib.hid (belowT HB.out g2)
        clear g2 y1
        have u1 : (far : Int) + 4 < 10000 := by have := HF.out; have := HDS.out; omega
        have u2 : (0 : Int) ≤ (far : Int) := by omega
        cases r
        · have HLT : Hid (D < far + 4) := by show D < far + 4; have := HR.out; simpa using this
          go_wp2_with fail
          go_roundw
          case rel => exact ⟨2, far, x, by omega, by go_num, rfl, rfl, HU.out, HX.out, HF.out, HLT.out, G2.out⟩
          case measure => simp [intOf]
        · have HLE : Hid (far + 4 ≤ D) := by show far + 4 ≤ D; have := HR.out; simpa using this
          go_wp2_with fail
          go_quiet (fail)
          go_wp2_with fail
          go_roundw
          case rel => exact ⟨2, far + 4, y, by omega, by go_num, rfl, by go_num, HE.out, HY.out, HLE.out, by have := HDD.out; show D < far + 4 + 4; omega, belowD G2.out _⟩
          case measure => simp [intOf]
    · have HDD : Hid (D < far + 4) := hd
      have y1 := qd_cell (keepR HB.out X1.out) (tabUp_at l HX.out) (j := 1) (by omega)
      rw [qat_leap l x (by omega)] at y1
      clear hd
      rcases climb_step HM.out (by have := HI.out; have := HL.out; omega) HD.out HU.out 1 with ⟨el, hlt⟩ | ⟨y, el, hy, eu, h1, h2⟩
      · rw [el] at y1
        have HLT : Hid (D < far + 2) := hlt
        clear el hlt
        go_wp2_with fail
        go_roundw
        case rel => exact ⟨3, far, x, by omega, by go_num, rfl, rfl, HU.out, HX.out, HF.out, HLT.out, HB.out⟩
        case measure => simp [intOf]
      · rw [el] at y1
        have t1 : ((y : Int) != -1) = true := by simp
        have HY : Hid (y < n) := by show y < n; have := HL.out; omega
        have HE : Hid (upT l (far + 2) i = (y : Int)) := eu
        have HQ : Hid (Calls Try.prog g (#[.int .i64 (y : Int)] ++ lb) wr fun e W' => e = .returned (.bool (decide (far + 2 ≤ D))) ∧ Below wr.heap.size wr W') := HPs.out (far + 2) y wr h1 h2 eu HB.out
        clear el hy eu h1 h2
        go_wp2_with fail
        obtain ⟨r, hr⟩ : ∃ r, r = decide (far + 2 ≤ D) := ⟨_, rfl⟩
        rw [← hr] at HQ
        have HR := Lib.hid hr
        clear hr
        refine HQ.out.mono ?_
        rintro e w2 ⟨rfl, g2⟩
        have G2 := Lib.hid (belowT HB.out g2)
        clear g2 y1
        have u1 : (far : Int) + 2 < 10000 := by have := HF.out; have := HDS.out; omega
        have u2 : (0 : Int) ≤ (far : Int) := by omega
        cases r
        · have HLT : Hid (D < far + 2) := by show D < far + 2; have := HR.out; simpa using this
          go_wp2_with fail
          go_roundw
          case rel => exact ⟨3, far, x, by omega, by go_num, rfl, rfl, HU.out, HX.out, HF.out, HLT.out, G2.out⟩
          case measure => simp [intOf]
        · have HLE : Hid (far + 2 ≤ D) := by show far + 2 ≤ D; have := HR.out; simpa using this
          go_wp2_with fail
          go_quiet (fail)
          go_wp2_with fail
          go_roundw
          case rel => exact ⟨3, far + 2, y, by omega, by go_num, rfl, by go_num, HE.out, HY.out, HLE.out, by have := HDD.out; show D < far + 2 + 2; omega, belowD G2.out _⟩
          case measure => simp [intOf]
    · have HDD : Hid (D < far + 2) := hd
      have y1 := qd_cell (keepR HB.out X1.out) (tabUp_at l HX.out) (j := 0) (by omega)
      rw [qat_leap l x (by omega)] at y1
      rw [Nat.add_zero] at y1
      clear hd
      rcases climb_step HM.out (by have := HI.out; have := HL.out; omega) HD.out HU.out 0 with ⟨el, hlt⟩ | ⟨y, el, hy, eu, h1, h2⟩
      · rw [el] at y1
        have HLT : Hid (D < far + 1) := hlt
        clear el hlt
        go_wp2_with fail
        go_roundw
        case rel => exact ⟨4, far, x, by omega, by go_num, rfl, rfl, HU.out, HX.out, HF.out, HLT.out, HB.out⟩
        case measure => simp [intOf]
      · rw [el] at y1
        have t1 : ((y : Int) != -1) = true := by simp
        have HY : Hid (y < n) := by show y < n; have := HL.out; omega
        have HE : Hid (upT l (far + 1) i = (y : Int)) := eu
        have HQ : Hid (Calls Try.prog g (#[.int .i64 (y : Int)] ++ lb) wr fun e W' => e = .returned (.bool (decide (far + 1 ≤ D))) ∧ Below wr.heap.size wr W') := HPs.out (far + 1) y wr h1 h2 eu HB.out
        clear el hy eu h1 h2
        go_wp2_with fail
        obtain ⟨r, hr⟩ : ∃ r, r = decide (far + 1 ≤ D) := ⟨_, rfl⟩
        rw [← hr] at HQ
        have HR := Lib.hid hr
        clear hr
        refine HQ.out.mono ?_
        rintro e w2 ⟨rfl, g2⟩
        have G2 := Lib.hid (belowT HB.out g2)
        clear g2 y1
        have u1 : (far : Int) + 1 < 10000 := by have := HF.out; have := HDS.out; omega
        have u2 : (0 : Int) ≤ (far : Int) := by omega
        cases r
        · have HLT : Hid (D < far + 1) := by show D < far + 1; have := HR.out; simpa using this
          go_wp2_with fail
          go_roundw
          case rel => exact ⟨4, far, x, by omega, by go_num, rfl, rfl, HU.out, HX.out, HF.out, HLT.out, G2.out⟩
          case measure => simp [intOf]
        · have HLE : Hid (far + 1 ≤ D) := by show far + 1 ≤ D; have := HR.out; simpa using this
          go_wp2_with fail
          go_quiet (fail)
          go_wp2_with fail
          go_roundw
          case rel => exact ⟨4, far + 1, y, by omega, by go_num, rfl, by go_num, HE.out, HY.out, HLE.out, by have := HDD.out; show D < far + 1 + 1; omega, belowD G2.out _⟩
          case measure => simp [intOf]
    · have HE : Hid (far = D) := by show far = D; have := HF.out; have hd : D < far + 1 := hd; omega
      clear hd i0 i1
      go_wp2_with fail
      go_ret2
      exact ⟨x, by rw [HE.out]; rfl, by rw [← HE.out]; exact HU.out, HX.out, HB.out⟩
theorem enters_skipClimb : ∀ args w, (callFunc 29 args).run Try.prog w = .ok (.enter 29 args) w := entersE Try.func29 (by kernel_rfl) (by kernel_rfl)
end Go.Proofs.Ytnmljjmaejmlfaa
