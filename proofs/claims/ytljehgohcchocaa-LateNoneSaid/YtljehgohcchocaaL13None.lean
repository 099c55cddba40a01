/-
  The law LateNone, walked. (written by wip/gen/law13.py)
-/
import Derived.Test.YtljehgohcchocaaW13
import Derived.Test.YtljehgohcchocaaElTo
namespace Go.Proofs.Ytljehgohcchocaa
open Go.RowKit
set_option maxRecDepth 100000

@[go_sem ↓] theorem slice_to_aa (ρ : Operand → Value) (dst : Option Tmp) (x hi : Operand) (ty : TypeId) (pos : String) (after : Array Edge) (guard : Option (Nat × Bool)) (w : World) :
    (execOp ρ { dst, op := .slice 22 x none (some hi) none, type := ty, pos, after, guard }).run Try.prog w = vOutE (cutTE 100 (ρ x) (ρ hi)) w (opRest Try.prog ρ { dst, op := .slice 22 x none (some hi) none, type := ty, pos, after, guard } w) :=
  slice_to_E Try.underlying22 Try.sizeOf29 ρ dst x hi ty pos after guard w
theorem due_slot {l : List Aa} {now i : Nat} (h : i < (dueL l now).length) : slA (dueL l now) i < now := by
  unfold slA
  rw [att_in h]
  exact (due_mem (List.getElem_mem h)).2
theorem rest_slot {l : List Aa} {now i : Nat} (h : i < (restL l now).length) : ¬ slA (restL l now) i < now := by
  unfold slA
  rw [att_in h]
  exact (rest_mem (List.getElem_mem h)).2

set_option maxRecDepth 100000 in
set_option maxHeartbeats 8000000 in
theorem lateNone_n (H : LateC) (q : Option Addr) (n c : Nat) (l : List Aa) (now : Nat) (m : Int) (w : World) (h : SlE Eaa w (.slice q n c) l) (hl : l.length = n) (bnow : now < 18446744073709551616) :
    Calls Try.prog 7 #[.slice q n c, .int .u64 (now : Int), .int .i64 m] w fun e w' => e = .returned (.bool true) ∧ Below w.heap.size w w' := by
  have A : Hid (Aw w w (.slice q n c) l) := ⟨h, Below.refl _ _⟩
  have HL := Lib.hid hl
  have Bnow := Lib.hid bnow
  have HAw := Lib.hid (fun W => awake_any13 H W)
  have HH := Lib.hid H
  clear H h hl bnow
  go_enter Try.func7, Try.ntmps7
  go_wp2_with fail
  refine (HAw.out _).mono ?_
  rintro e w1 ⟨rfl, g⟩
  replace A := Lib.hid (A.out.keep g)
  clear g
  by_cases h1 : 40 < n
  · have h1i : decide ((40 : Int) < (n : Int)) = true := decide_eq_true (by omega)
    have h1i' : decide (40 < n) = true := decide_eq_true (by omega)
    clear h1
    go_wp2_with fail
    go_ret
    exact ⟨rfl, A.out.g⟩
  have h1i : decide ((40 : Int) < (n : Int)) = false := decide_eq_false (by omega)
  have h1i' : decide (40 < n) = false := decide_eq_false (by omega)
  by_cases h2 : m < 0
  · have h2i : decide (m < 0) = true := decide_eq_true (h2)
    clear h2
    go_wp2_with fail
    go_ret
    exact ⟨rfl, A.out.g⟩
  have h2i : decide (m < 0) = false := decide_eq_false (h2)
  by_cases h3 : (n : Int) < m
  · have h3i : decide ((n : Int) < m) = true := decide_eq_true (h3)
    clear h3
    go_wp2_with fail
    go_ret
    exact ⟨rfl, A.out.g⟩
  have h3i : decide ((n : Int) < m) = false := decide_eq_false (h3)
  obtain ⟨m, rfl⟩ : ∃ m' : Nat, m = m' := ⟨m.toNat, by omega⟩
  have hmn : m ≤ n := by omega
  have h3i' : decide (n < m) = false := decide_eq_false (by omega)
  have hn : l.length ≤ 1000 := by have := HL.out; omega
  have HA := Lib.hid (fun W (g : SlE Eaa W (.slice q n c) l) => HH.out.due _ l 0 W (by decide) g hn)
  rw [due_zero.1, due_zero.2] at HA
  have HB := Lib.hid (fun W (g : SlE Eaa W (.slice q n c) l) => HH.out.due _ l now W Bnow.out g hn)
  have HM := Lib.hid (fun W (g : SlE Eaa W (.slice q n c) l) => HH.out.may _ l W g)
  have HT := Lib.hid (fun v k W (g : SlE Eaa W v k) => HH.out.may v k W g)
  have HS := Lib.hid (fun v W (g1 : SlE Eaa W v l) (g : SlE Eaa W (.slice q n c) l) => HH.out.same v _ l l W g1 g hn)
  rw [decide_eq_true rfl] at HS
  have q1 : Hid (∀ i, i < (dueL l now).length → slA (dueL l now) i < now) := fun i hi => due_slot hi
  have q2 : Hid (∀ i, i < (restL l now).length → ¬ slA (restL l now) i < now) := fun i hi => rest_slot hi
  have m1 : Hid (mayA l = true → mayA (l.take m) = true ∧ mayA (dueL l now) = true ∧ mayA (restL l now) = true) := fun e => ⟨mayA_sub e (by rw [List.length_take]; omega) (fun x hx => List.mem_of_mem_take hx), mayA_sub e due_le (fun x hx => (due_mem hx).1), mayA_sub e rest_le (fun x hx => (rest_mem hx).1)⟩
  have k1 : (dueL l now).length ≤ 1000 := Nat.le_trans due_le hn
  have k2 : (restL l now).length ≤ 1000 := Nat.le_trans rest_le hn
  generalize dueL l now = DA at *
  generalize restL l now = RA at *
  obtain ⟨na, hna⟩ : ∃ z, z = DA.length := ⟨_, rfl⟩
  obtain ⟨nr, hnr⟩ : ∃ z, z = RA.length := ⟨_, rfl⟩
  rw [← hna] at q1 k1
  rw [← hnr] at q2 k2
  have La := Lib.hid hna.symm
  have Lr := Lib.hid hnr.symm
  have K1 := Lib.hid k1
  have K2 := Lib.hid k2
  have Hmn := Lib.hid hmn
  obtain ⟨ml, hml⟩ : ∃ z, z = mayA l := ⟨_, rfl⟩
  rw [← hml] at HM m1
  clear h1 h2 h3 hmn hn hna hnr k1 k2 hml
  go_wp2_with fail
  refine (HA.out _ A.out.s).mono ?_
  rintro e w2 ⟨vz, vy, rfl, hz, hy, g⟩
  replace A := Lib.hid (A.out.keep g)
  have Sz := Lib.hid hz
  have Sy := Lib.hid hy
  clear hz hy
  clear g
  obtain ⟨pz, cz, rfl⟩ := slE_len Sz.out (n := 0) rfl
  go_wp2_with fail
  refine (HB.out _ A.out.s).mono ?_
  rintro e w3 ⟨va, vb, rfl, ha, hb, g⟩
  replace A := Lib.hid (A.out.keep g)
  replace Sz := Lib.hid (slE_keep g Sz.out)
  replace Sy := Lib.hid (slE_keep g Sy.out)
  have Sa := Lib.hid ha
  have Sb := Lib.hid hb
  clear ha hb
  clear g
  obtain ⟨pa, ca, rfl⟩ := slE_len Sa.out La.out
  obtain ⟨pb, cb, rfl⟩ := slE_len Sb.out Lr.out
  go_wp2_with fail
  go_loopw [12] (fun i wr => ∃ j : Nat, j ≤ na ∧ i = .int .i64 (j : Int) ∧ wr = w3) (fun i _ => na - (intOf i).toNat)
  case atStart => exact ⟨0, Nat.zero_le _, rfl, rfl⟩
  case round =>
    obtain ⟨j, hj, rfl, rfl⟩ := hrel
    by_cases hlt : j < na
    · have i0 : (0 : Int) ≤ (j : Int) := by omega
      have i1 : (j : Int) < (na : Int) := by omega
      have u1 : (j : Int) + 1 < 10000 := by have := K1.out; omega
      obtain ⟨b1, o1, rfl, _, x1⟩ := atts_ptr Sa.out (by rw [La.out]; omega)
      have y1 := atts_slot x1 (i := j) (by rw [La.out]; exact hlt)
      have hs := q1.out j hlt
      generalize slA _ j = y at *
      have HLT := Lib.hid hlt
      have d0 : decide ((now : Int) ≤ (y : Int)) = false := decide_eq_false (by omega)
      have d0' : decide (now ≤ y) = false := decide_eq_false (by omega)
      clear x1 hlt hs
      go_wp2_with fail
      go_roundw
      case rel => exact ⟨j + 1, HLT.out, by go_num, by first | rfl | trivial⟩
      case measure => simp [intOf]; have := HLT.out; omega
    · obtain rfl : j = na := by omega
      clear hlt
      obtain ⟨wo, rfl⟩ : ∃ wo : World, wo = wr := ⟨_, rfl⟩
      go_wp2_with fail
      go_loopw [13] (fun i wr => ∃ j : Nat, j ≤ nr ∧ i = .int .i64 (j : Int) ∧ wr = wo) (fun i _ => nr - (intOf i).toNat)
      case atStart => exact ⟨0, Nat.zero_le _, rfl, rfl⟩
      case round =>
        obtain ⟨j, hj, rfl, rfl⟩ := hrel
        by_cases hlt : j < nr
        · have i0 : (0 : Int) ≤ (j : Int) := by omega
          have i1 : (j : Int) < (nr : Int) := by omega
          have u1 : (j : Int) + 1 < 10000 := by have := K2.out; omega
          obtain ⟨b1, o1, rfl, _, x1⟩ := atts_ptr Sb.out (by rw [Lr.out]; omega)
          have y1 := atts_slot x1 (i := j) (by rw [Lr.out]; exact hlt)
          have hs := q2.out j hlt
          generalize slA _ j = y at *
          have HLT := Lib.hid hlt
          have d0 : decide ((y : Int) < (now : Int)) = false := decide_eq_false (by omega)
          have d0' : decide (y < now) = false := decide_eq_false hs
          clear x1 hlt hs
          go_wp2_with fail
          go_roundw
          case rel => exact ⟨j + 1, HLT.out, by go_num, by first | rfl | trivial⟩
          case measure => simp [intOf]; have := HLT.out; omega
        · obtain rfl : j = nr := by omega
          clear hlt
          have hs1 := fun W (g : SlE Eaa W (.slice q n c) l) => HS.out vy W
          clear hs1
          go_wp2_with fail
          refine (HS.out _ _ Sy.out A.out.s).mono ?_
          rintro e w4 ⟨rfl, g⟩
          replace A := Lib.hid (A.out.keep g)
          replace Sz := Lib.hid (slE_keep g Sz.out)
          replace Sy := Lib.hid (slE_keep g Sy.out)
          replace Sa := Lib.hid (slE_keep g Sa.out)
          replace Sb := Lib.hid (slE_keep g Sb.out)
          clear g
          go_wp2_with fail
          refine (HM.out _ A.out.s).mono ?_
          rintro e w5 ⟨rfl, g⟩
          replace A := Lib.hid (A.out.keep g)
          replace Sz := Lib.hid (slE_keep g Sz.out)
          replace Sy := Lib.hid (slE_keep g Sy.out)
          replace Sa := Lib.hid (slE_keep g Sa.out)
          replace Sb := Lib.hid (slE_keep g Sb.out)
          clear g
          obtain ⟨cr, hc1, hc2⟩ := cut_toE (E := Eaa) q c l m (by rw [HL.out]; exact Hmn.out) (by obtain ⟨_, _, e, hh⟩ := slE_shape A.out.s; injection e with _ _ e3; omega)
          rw [HL.out] at hc1 hc2
          change cutTE 100 _ _ = some cr at hc1
          have Sc := Lib.hid (hc2 _ A.out.s)
          clear hc2
          cases ml
          · skip
            go_wp2_with fail
            go_ret
            exact ⟨rfl, A.out.g⟩
          · obtain ⟨e1, e2, e3⟩ := m1.out rfl
            have T1 := fun W (g : SlE Eaa W cr (l.take m)) => HT.out cr _ W g
            rw [e1] at T1
            have T2 := fun v W (g : SlE Eaa W v DA) => HT.out v _ W g
            rw [e2] at T2
            have T3 := fun v W (g : SlE Eaa W v RA) => HT.out v _ W g
            rw [e3] at T3
            have T1 := Lib.hid T1
            have T2 := Lib.hid T2
            have T3 := Lib.hid T3
            clear e1 e2 e3
            go_wp2_with fail
            refine (T1.out _ Sc.out).mono ?_
            rintro e w6 ⟨rfl, g⟩
            replace A := Lib.hid (A.out.keep g)
            replace Sz := Lib.hid (slE_keep g Sz.out)
            replace Sy := Lib.hid (slE_keep g Sy.out)
            replace Sa := Lib.hid (slE_keep g Sa.out)
            replace Sb := Lib.hid (slE_keep g Sb.out)
            replace Sc := Lib.hid (slE_keep g Sc.out)
            clear g
            go_wp2_with fail
            refine (T2.out _ _ Sa.out).mono ?_
            rintro e w7 ⟨rfl, g⟩
            replace A := Lib.hid (A.out.keep g)
            replace Sz := Lib.hid (slE_keep g Sz.out)
            replace Sy := Lib.hid (slE_keep g Sy.out)
            replace Sa := Lib.hid (slE_keep g Sa.out)
            replace Sb := Lib.hid (slE_keep g Sb.out)
            replace Sc := Lib.hid (slE_keep g Sc.out)
            clear g
            go_wp2_with fail
            refine (T3.out _ _ Sb.out).mono ?_
            rintro e w8 ⟨rfl, g⟩
            replace A := Lib.hid (A.out.keep g)
            replace Sz := Lib.hid (slE_keep g Sz.out)
            replace Sy := Lib.hid (slE_keep g Sy.out)
            replace Sa := Lib.hid (slE_keep g Sa.out)
            replace Sb := Lib.hid (slE_keep g Sb.out)
            replace Sc := Lib.hid (slE_keep g Sc.out)
            clear g
            go_wp2_with fail
            go_ret
            exact ⟨rfl, A.out.g⟩
/-- The law. -/
theorem lateNoneL (H : LateC) (v1 : Value) (l : List Aa) (now : UInt64) (m : Int) (w : World) (h : SlE Eaa w v1 l) :
    Calls Try.prog 7 #[v1, .int .u64 (now.toNat : Int), .int .i64 m] w fun e w' => e = .returned (.bool true) ∧ Below w.heap.size w w' := by
  have k1 := h
  obtain ⟨q, c, rfl, _⟩ := slE_shape h
  exact lateNone_n H q _ c l now.toNat m w k1 rfl now.toNat_lt
end Go.Proofs.Ytljehgohcchocaa
