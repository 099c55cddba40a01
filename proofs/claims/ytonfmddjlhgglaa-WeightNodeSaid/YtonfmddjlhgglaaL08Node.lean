/-
  The law WeightNode, walked. (written by wip/gen/law08.py)
-/
import Derived.Test.YtonfmddjlhgglaaLaw08
import Derived.Test.YtonfmddjlhgglaaGK
namespace Go.Proofs.Ytonfmddjlhgglaa
open Go.RowKit

/-- What the first so many children weigh. -/
def kidS (l : List Nd) (a : List UInt64) (i k : Nat) : Nat := (((kidsT l i).take k).map (subT l (fn a))).sum
theorem kidS_succ {l : List Nd} {a : List UInt64} {i k : Nat} (hk : k < (kidsT l i).length) : kidS l a i (k + 1) = kidS l a i k + subT l (fn a) (kidsT l i)[k] := by
  unfold kidS
  rw [List.take_succ_eq_append_getElem hk, List.map_append, List.sum_append, List.map_cons, List.map_nil, List.sum_cons, List.sum_nil, Nat.add_zero]
theorem kidS_all {l : List Nd} {a : List UInt64} {i : Nat} (h : MayT l) (hi : i < l.length) : fn a i + kidS l a i (kidsT l i).length = subT l (fn a) i := by
  unfold kidS
  rw [List.take_length]
  exact (law_node h (fn a) hi).symm
theorem kidS_le {l : List Nd} {a : List UInt64} {i k : Nat} (hk : k ≤ (kidsT l i).length) : kidS l a i k ≤ kidS l a i (kidsT l i).length := by
  obtain ⟨d, hd⟩ : ∃ d, (kidsT l i).length = k + d := ⟨_, (Nat.add_sub_cancel' hk).symm⟩
  rw [hd]
  clear hd hk
  induction d with
  | zero => exact Nat.le_refl _
  | succ d ih =>
    refine Nat.le_trans ih ?_
    by_cases h : k + d < (kidsT l i).length
    · rw [← Nat.add_assoc, kidS_succ h]; omega
    · unfold kidS
      rw [List.take_of_length_le (by omega), List.take_of_length_le (by omega)]
      exact Nat.le_refl _
theorem ints_cell {w : World} {b off : Nat} {a : List Int} (h : w.rangeAt b off (cellsE Eint a)) {i : Nat} (hi : i < a.length) : w.cell? ⟨b, off + i, none⟩ = some (.int .i64 a[i]) := by
  have := cell_at h hi (j := 0) (v := .int .i64 a[i]) rfl
  simpa [Eint] using this

set_option maxRecDepth 100000 in
set_option maxHeartbeats 8000000 in
theorem weightNode_n (HSu : SubC) (HPa : PassC) (HSa : SameC) (p : Option Addr) (n cp : Nat) (l : List Nd) (q1 : Option Addr) (m1 c1 : Nat) (a1 : List UInt64) (i : Int) (w : World) (h : SlE Ene w (.slice p n cp) l) (hl : l.length = n) (h1 : SlE Enum w (.slice q1 m1 c1) a1) (e1 : a1.length = m1) :
    Calls Try.prog 5 #[.agg (tr ⟨⟨p, n, cp⟩⟩), .slice q1 m1 c1, .int .i64 i] w fun e w' => e = .returned (.bool true) ∧ Below w.heap.size w w' := by
  have V : Hid (Tw w (w.alloc (.cells (tr ⟨⟨p, n, cp⟩⟩) 24)) w.heap.size ⟨p, n, cp⟩ l) := tw_one h
  obtain ⟨W0, hW0⟩ : ∃ W0, W0 = w.alloc (.cells (tr ⟨⟨p, n, cp⟩⟩) 24) := ⟨_, rfl⟩
  have hB : Below w.heap.size w W0 := by rw [hW0]; exact below1
  rw [← hW0] at V
  have A := V
  have HW := Lib.hid hW0
  have HL := Lib.hid hl
  have B1 : Hid (SlE Enum W0 (.slice q1 m1 c1) a1) := slE_keep hB h1
  have E1 := Lib.hid e1
  have HAw := Lib.hid (fun W => awake_any8 HSu HPa HSa W)
  have HSu := Lib.hid HSu
  have HPa := Lib.hid HPa
  have HSa := Lib.hid HSa
  clear V hW0 hB h hl h1 e1
  go_enter Try.func5, Try.ntmps5
  go_wp2_with fail
  rw [← HW.out]
  refine (HAw.out _).mono ?_
  rintro e w1 ⟨rfl, g⟩
  replace A := Lib.hid (A.out.keep g)
  replace B1 := Lib.hid (slE_keep g B1.out)
  clear g
  have z1 := A.out.z1
  have z0 := A.out.z0
  rw [sv_mk] at z0
  go_wp2_with fail
  refine (HSu.out _ _ l a1 _ A.out.s B1.out).mono ?_
  rintro e w2 ⟨va, rfl, hv, g⟩
  replace A := Lib.hid (A.out.keep g)
  replace B1 := Lib.hid (slE_keep g B1.out)
  have R1 := Lib.hid hv
  clear hv
  clear g
  replace z1 := A.out.z1
  replace z0 := A.out.z0
  rw [sv_mk] at z0
  obtain ⟨ok, hok⟩ : ∃ ok, ok = subOk l a1 := ⟨_, rfl⟩
  rw [← hok]
  cases ok
  case false =>
    clear hok
    go_wp2_with fail
    go_ret
    exact ⟨rfl, A.out.g⟩
  have hS : subOk l a1 = true := hok.symm
  clear hok
  obtain ⟨hm, hal, hfit⟩ := subOk_iff.1 hS
  have HN : Hid (n ≤ 12) := by show n ≤ 12; have := hm.le; have := HL.out; omega
  have HM := Lib.hid hm
  have HF := Lib.hid hfit
  have HSok := Lib.hid hS
  obtain ⟨pv, cv, rfl⟩ := slE_len R1.out ((subL_len hS).trans HL.out)
  have hm1 : m1 = n := by have := E1.out; have := HL.out; omega
  clear hm hal hfit hS
  by_cases hi0 : i < 0
  · have hi0i : decide (i < 0) = true := decide_eq_true (hi0)
    clear hi0
    go_wp2_with fail
    go_ret
    exact ⟨rfl, A.out.g⟩
  have hi0i : decide (i < 0) = false := decide_eq_false (hi0)
  by_cases hi1 : (n : Int) ≤ i
  · have hi1i : decide ((n : Int) ≤ i) = true := decide_eq_true (hi1)
    clear hi1
    go_wp2_with fail
    go_ret
    exact ⟨rfl, A.out.g⟩
  have hi1i : decide ((n : Int) ≤ i) = false := decide_eq_false (hi1)
  obtain ⟨i, rfl⟩ : ∃ i' : Nat, i = i' := ⟨i.toNat, by omega⟩
  obtain rfl : n = m1 := hm1.symm
  have hi : i < l.length := by have := HL.out; omega
  have Hi := Lib.hid hi
  have hi1n : decide (n ≤ i) = false := decide_eq_false (by omega)
  have hnn : ((n : Int) != (n : Int)) = false := by simp
  have HKd := Lib.hid (fun W (g : SlE Ene W (.slice p n cp) l) => treeKids ⟨p, n, cp⟩ l (i : Int) W g)
  rw [kidsI_nat HM.out hi] at HKd
  unfold IntsIs at HKd
  obtain ⟨K, hK⟩ : ∃ K, K = kidsT l i := ⟨_, rfl⟩
  rw [show kidsUp l i l.length = K.map (fun k : Nat => (k : Int)) by rw [hK]; rfl] at HKd
  have HKm : Hid (∀ j (hj : j < K.length), K[j] < l.length) := fun j hj => (mem_kids.1 (by rw [← hK]; exact List.getElem_mem hj)).1
  have HKn : Hid (K.length ≤ n) := by show K.length ≤ n; have h3 := kidsUp_len l i l.length; rw [show kidsUp l i l.length = K.map (fun k : Nat => (k : Int)) by rw [hK]; rfl, List.length_map, HL.out] at h3; exact h3
  have HKs : Hid (∀ j (hj : j < K.length), kidS l a1 i (j + 1) = kidS l a1 i j + subT l (fn a1) K[j]) := fun j hj => by subst hK; exact kidS_succ hj
  have HKa : Hid (fn a1 i + kidS l a1 i K.length = subT l (fn a1) i) := by show _ = _; subst hK; exact kidS_all HM.out hi
  have HKl : Hid (∀ j, j ≤ K.length → kidS l a1 i j ≤ kidS l a1 i K.length) := fun j hj => by subst hK; exact kidS_le hj
  have hs1 : ∀ c, c < l.length → fn (subL l a1) c = subT l (fn a1) c := fun c hc => subL_fn HSok.out hc
  have HS1 := Lib.hid hs1
  have HSl := Lib.hid (subL_len HSok.out)
  have HFi := Lib.hid (sub_first HM.out (fn a1))
  generalize subL l a1 = s1 at *
  clear hK hs1 hi0 hi1 hi hm1 HSok
  go_wp2_with fail
  refine (HKd.out _ A.out.s).mono ?_
  rintro e w3 ⟨vk, rfl, ho, g⟩
  replace A := Lib.hid (A.out.keep g)
  replace B1 := Lib.hid (slE_keep g B1.out)
  replace R1 := Lib.hid (slE_keep g R1.out)
  obtain ⟨m, hmK⟩ : ∃ m, m = K.length := ⟨_, rfl⟩
  obtain ⟨pk, ck, rfl⟩ := ownE_len ho (n := m) (by rw [hmK]; simp)
  have KO := Lib.hid (ownE_slE ho)
  have HmK := Lib.hid hmK
  clear ho hmK
  clear g
  replace z1 := A.out.z1
  replace z0 := A.out.z0
  rw [sv_mk] at z0
  obtain ⟨b2, o2, rfl, r2, x2⟩ := nums_ptr B1.out (by have := E1.out; have := Hi.out; have := HL.out; omega)
  obtain ⟨b3, o3, rfl, r3, x3⟩ := nums_ptr R1.out (by have := HSl.out; have := Hi.out; omega)
  have X2 := Lib.hid x2
  have X3 := Lib.hid x3
  have y2 := nums_cell x2 (i := i) (by have := E1.out; have := Hi.out; have := HL.out; omega)
  have i0 : (0 : Int) ≤ (i : Int) := by omega
  have i1 : (i : Int) < (n : Int) := by have := Hi.out; have := HL.out; omega
  clear r2 r3 x2 x3 HKd
  have HB0 : Hid (∀ j, j ≤ K.length → fn a1 i + kidS l a1 i j < 18446744073709551616 ∧ fn a1 i + kidS l a1 i j ≤ subT l (fn a1) i) := fun j hj => by
    have h1 := HKl.out j hj
    have h2 := HKa.out
    have h3 := HF.out i Hi.out
    omega
  go_wp2_with fail
  go_loopw [11, 12] (fun s k wr => ∃ j : Nat, j ≤ m ∧ k = .int .i64 (j : Int) ∧ s = .int .u64 ((fn a1 i + kidS l a1 i j : Nat) : Int) ∧ Below w3.heap.size w3 wr) (fun _ k _ => m - (intOf k).toNat)
  case atStart => exact ⟨0, Nat.zero_le _, rfl, rfl, Below.refl _ _⟩
  case round =>
    obtain ⟨j, hj, rfl, rfl, hb⟩ := hrel
    have HBB := Lib.hid hb
    clear hb
    obtain ⟨S, hS⟩ : ∃ S, S = fn a1 i + kidS l a1 i j := ⟨_, rfl⟩
    rw [← hS]
    have HSv := Lib.hid hS
    have HSb := Lib.hid (HB0.out j (by have := HmK.out; omega))
    rw [← hS] at HSb
    clear hS
    have yi := nums_cell (keepR HBB.out X3.out) (i := i) (by have := HSl.out; have := Hi.out; omega)
    rw [HS1.out i Hi.out] at yi
    obtain ⟨Wi, hWi⟩ : ∃ W, W = subT l (fn a1) i := ⟨_, rfl⟩
    rw [← hWi] at yi
    have HWi := Lib.hid hWi
    clear hWi
    by_cases hlt : j < m
    · have j0 : (0 : Int) ≤ (j : Int) := by omega
      have j1 : (j : Int) < (m : Int) := by omega
      have hjK : j < K.length := by have := HmK.out; omega
      have um : (m : Int) ≤ 12 := by
        have h1 := HmK.out
        have h2 := HKn.out
        have := HN.out
        omega
      have u1 : (j : Int) + 1 < 10000 := by omega
      obtain ⟨b4, o4, e4, r4, x4⟩ : ∃ b o, pk = some ⟨b, o, none⟩ ∧ b < w3.heap.size ∧ w3.rangeAt b o (cellsE Eint (K.map fun k : Nat => (k : Int))) := by
        obtain ⟨b, o, c, e, _, q, x⟩ := slE_ne KO.out (by rw [List.length_map]; omega)
        injection e with e1 e2 e3
        exact ⟨b, o, e1, q, x⟩
      subst e4
      have yk := ints_cell (keepR HBB.out x4) (i := j) (by rw [List.length_map]; exact hjK)
      rw [List.getElem_map] at yk
      have hc := HKm.out j hjK
      have hks := HKs.out j hjK
      have hb1 := HB0.out (j + 1) hjK
      obtain ⟨c, hcK⟩ : ∃ c, c = K[j] := ⟨_, rfl⟩
      rw [← hcK] at yk hc hks
      have yc := nums_cell (keepR HBB.out X3.out) (i := c) (by have := HSl.out; omega)
      rw [HS1.out c hc] at yc
      obtain ⟨X, hX⟩ : ∃ X, X = subT l (fn a1) c := ⟨_, rfl⟩
      rw [← hX] at yc hks
      have c0 : (0 : Int) ≤ (c : Int) := by omega
      have c1 : (c : Int) < (n : Int) := by have := HL.out; omega
      have c2 : decide ((n : Int) ≤ (c : Int)) = false := decide_eq_false (by omega)
      have c3 : decide (n ≤ c) = false := decide_eq_false (by omega)
      have c4 : decide ((c : Int) < 0) = false := decide_eq_false (by omega)
      obtain ⟨V, hV⟩ : ∃ V, V = fn a1 i + kidS l a1 i (j + 1) := ⟨_, rfl⟩
      have eV : (S : Int) + (X : Int) = (V : Int) := by have := HSv.out; omega
      have uV : (V : Int) < 18446744073709551616 := by omega
      have HV := Lib.hid hV
      have d1 : decide ((Wi : Int) < (X : Int)) = false := decide_eq_false (by have := HWi.out; have := HSv.out; omega)
      have d2 : decide (Wi < X) = false := decide_eq_false (by have := HWi.out; have := HSv.out; omega)
      have HJT := Lib.hid hlt
      clear hlt hjK hc hks hb1 hcK hX hV x4 r4 um
      go_wp2_with fail
      go_quiet (fail)
      go_wp2_with fail
      go_roundw
      case rel => exact ⟨j + 1, HJT.out, by go_num, by rw [← HV.out], belowD HBB.out _⟩
      case measure => simp [intOf]; have := HJT.out; omega
    · obtain rfl : j = m := by omega
      have hfin : S = Wi := by rw [HSv.out, HWi.out, HmK.out]; exact HKa.out
      subst hfin
      clear hlt
      have HB1 := Lib.hid (keepR HBB.out X2.out)
      have HB3 := Lib.hid (keepR HBB.out X3.out)
      have HTot : Hid (sumF (fn a1) n < 18446744073709551616 ∧ fn s1 0 = sumF (fn a1) n) := by
        show _ ∧ _
        have h0 := HF.out 0 HM.out.pos
        rw [HFi.out, HL.out] at h0
        exact ⟨h0, by rw [HS1.out 0 HM.out.pos, HFi.out, HL.out]⟩
      obtain ⟨wo, rfl⟩ : ∃ wo : World, wo = wr := ⟨_, rfl⟩
      go_wp2_with fail
      go_loopw [13, 14] (fun s k wr => ∃ j : Nat, j ≤ n ∧ k = .int .i64 (j : Int) ∧ s = .int .u64 ((sumF (fn a1) j : Nat) : Int) ∧ Below wo.heap.size wo wr) (fun _ k _ => n - (intOf k).toNat)
      case atStart => exact ⟨0, Nat.zero_le _, rfl, rfl, Below.refl _ _⟩
      case round =>
        obtain ⟨k, hk, rfl, rfl, hb⟩ := hrel
        have HI := Lib.hid hb
        clear hb yi
        obtain ⟨T, hT⟩ : ∃ T, T = sumF (fn a1) k := ⟨_, rfl⟩
        rw [← hT]
        by_cases hkt : k < n
        · have k0 : (0 : Int) ≤ (k : Int) := by omega
          have k1 : (k : Int) < (n : Int) := by omega
          have v1 : (k : Int) + 1 < 10000 := by have := HN.out; omega
          have yk := nums_cell (keepR HI.out HB1.out) (i := k) (by have := E1.out; omega)
          have hsum : sumF (fn a1) (k + 1) = sumF (fn a1) k + fn a1 k := rfl
          have hle := sumF_part (fn a1) (show k + 1 ≤ n by omega)
          have htot := HTot.out.1
          obtain ⟨V, hV⟩ : ∃ V, V = sumF (fn a1) (k + 1) := ⟨_, rfl⟩
          rw [← hV] at hle hsum
          obtain ⟨X, hX⟩ : ∃ X, X = fn a1 k := ⟨_, rfl⟩
          rw [← hX] at yk hsum
          rw [← hT] at hsum
          have eV : (T : Int) + (X : Int) = (V : Int) := by omega
          have uV : (V : Int) < 18446744073709551616 := by omega
          have HV := Lib.hid hV
          have HJT := Lib.hid hkt
          clear hkt hT hsum hle htot hV hX
          go_wp2_with fail
          go_roundw
          case rel => exact ⟨k + 1, HJT.out, by go_num, by rw [← HV.out], HI.out⟩
          case measure => simp [intOf]; have := HJT.out; omega
        · obtain rfl : k = n := by omega
          have yi := nums_cell (keepR HI.out HB3.out) (i := i) (by have := HSl.out; have := Hi.out; omega)
          rw [HS1.out i Hi.out, ← HWi.out] at yi
          have y0 := nums_cell (keepR HI.out HB3.out) (i := 0) (by have := HSl.out; have := Hi.out; omega)
          rw [HTot.out.2, ← hT, Nat.add_zero] at y0
          have n0 : 0 < k := by have := Hi.out; have := HL.out; omega
          have n1 : (0 : Int) < (k : Int) := by omega
          clear hkt hT
          go_wp2_with fail
          go_ret
          exact ⟨rfl, belowT A.out.g (belowT HBB.out HI.out)⟩
/-- The law. -/
theorem weightNodeL (HSu : SubC) (HPa : PassC) (HSa : SameC) (s : Tr) (l : List Nd) (v1 : Value) (a1 : List UInt64) (i : Int) (w : World) (h : SlE Ene w (sv s.n) l) (h1 : SlE Enum w v1 a1) :
    Calls Try.prog 5 #[.agg (tr s), v1, .int .i64 i] w fun e w' => e = .returned (.bool true) ∧ Below w.heap.size w w' := by
  obtain ⟨s⟩ := s
  have hn := sv_lenN h
  obtain ⟨p, n, cp⟩ := s
  have k1 := h1
  obtain ⟨q1, c1, rfl, _⟩ := slE_shape h1
  exact weightNode_n HSu HPa HSa p n cp l q1 _ c1 a1 i w h hn k1 rfl
end Go.Proofs.Ytonfmddjlhgglaa
