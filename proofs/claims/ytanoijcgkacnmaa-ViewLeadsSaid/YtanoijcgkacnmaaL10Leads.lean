/-
  The law ViewLeads, walked. (written by wip/gen/law10.py)
-/
import Derived.Test.YtanoijcgkacnmaaW10
import Derived.Test.YtanoijcgkacnmaaP06May
import Derived.Test.YtanoijcgkacnmaaGQ
namespace Go.Proofs.Ytanoijcgkacnmaa
open Go.RowKit

/-- A leaf that may be a head, or one of the first so many children leads on. -/
def orK (l : List Nd) (j : Nat) (f : Int) (i : Nat) (K : List Nat) (q : Nat) : Bool := leafT l j f (i : Int) || anyB (fun z => leadB l j f (K.getD z 0)) q
theorem orK_succ (l : List Nd) (j : Nat) (f : Int) (i : Nat) (K : List Nat) (q : Nat) : orK l j f i K (q + 1) = (orK l j f i K q || leadB l j f (K.getD q 0)) := by unfold orK; rw [show anyB (fun z => leadB l j f (K.getD z 0)) (q + 1) = (anyB (fun z => leadB l j f (K.getD z 0)) q || leadB l j f (K.getD q 0)) from rfl, Bool.or_assoc]
theorem orK_all {l : List Nd} (h : MayT l) {j : Nat} {f : Int} {i : Nat} (hi : i < l.length) : orK l j f i (kidsT l i) (kidsT l i).length = leadB l j f i := by
  rw [Bool.eq_iff_iff, (law_leads h hi).1]
  unfold orK
  rw [Bool.or_eq_true, anyB_iff]
  refine or_congr Iff.rfl ⟨fun ⟨z, hz, e⟩ => ⟨(kidsT l i).getD z 0, ?_, e⟩, fun ⟨c, hc, e⟩ => ?_⟩
  · rw [List.getD_eq_getElem?_getD, List.getElem?_eq_getElem hz]
    exact List.getElem_mem hz
  · obtain ⟨z, hz, rfl⟩ := List.getElem_of_mem hc
    exact ⟨z, hz, by rw [List.getD_eq_getElem?_getD, List.getElem?_eq_getElem hz]; exact e⟩

set_option maxRecDepth 100000 in
set_option maxHeartbeats 8000000 in
theorem viewLeads_n (HLs : LeadsC) (HLf : LeafC) (HFr : FromC) (p : Option Addr) (n cp : Nat) (l : List Nd) (j : Nat) (f : Int) (i : Int) (w : World) (h : SlE Ene w (.slice p n cp) l) (hl : l.length = n) (bj : j < 18446744073709551616) :
    Calls Try.prog 4 #[.agg (tr ⟨⟨p, n, cp⟩⟩), .int .u64 (j : Int), .int .i64 f, .int .i64 i] w fun e w' => e = .returned (.bool true) ∧ Below w.heap.size w w' := by
  obtain ⟨W0, hW0⟩ : ∃ W0, W0 = w.alloc (.cells (tr ⟨⟨p, n, cp⟩⟩) 24) := ⟨_, rfl⟩
  have A : Hid (Tw w W0 w.heap.size ⟨p, n, cp⟩ l) := by rw [hW0]; exact tw_one h
  have HW := Lib.hid hW0
  have HL := Lib.hid hl
  have HAw := Lib.hid (fun W => awake_any10 HLs HLf HFr W)
  have HLs := Lib.hid HLs
  have HLf := Lib.hid HLf
  have HFr := Lib.hid HFr
  have Bj := Lib.hid bj
  clear bj
  clear hW0 h hl
  have HMay := Lib.hid (fun W (g : SlE Ene W (.slice p n cp) l) => treeMay ⟨p, n, cp⟩ l W g)
  go_enter Try.func4, Try.ntmps4
  go_wp2_with fail
  rw [← HW.out]
  refine (HAw.out _).mono ?_
  rintro e w1 ⟨rfl, g⟩
  replace A := Lib.hid (A.out.keep g)
  clear g
  have z1 := A.out.z1
  have z0 := A.out.z0
  rw [sv_mk] at z0
  go_wp2_with fail
  refine (HMay.out _ A.out.s).mono ?_
  rintro e w2 ⟨rfl, g⟩
  replace A := Lib.hid (A.out.keep g)
  clear g
  replace z1 := A.out.z1
  replace z0 := A.out.z0
  rw [sv_mk] at z0
  clear HMay
  by_cases hm : MayT l
  case neg =>
    rw [decide_eq_false hm]
    clear hm
    go_wp2_with fail
    go_ret
    exact ⟨rfl, A.out.g⟩
  rw [decide_eq_true hm]
  have HN : Hid (n ≤ 12) := by show n ≤ 12; have := hm.le; have := HL.out; omega
  have HM := Lib.hid hm
  clear hm
  by_cases hf0 : f < 0
  · have hf0i : decide (f < 0) = true := decide_eq_true (hf0)
    clear hf0
    go_wp2_with fail
    go_ret
    exact ⟨rfl, A.out.g⟩
  have hf0i : decide (f < 0) = false := decide_eq_false (hf0)
  by_cases hf1 : (n : Int) ≤ f
  · have hf1i : decide ((n : Int) ≤ f) = true := decide_eq_true (hf1)
    clear hf1
    go_wp2_with fail
    go_ret
    exact ⟨rfl, A.out.g⟩
  have hf1i : decide ((n : Int) ≤ f) = false := decide_eq_false (hf1)
  obtain ⟨f, rfl⟩ : ∃ f' : Nat, f = f' := ⟨f.toNat, by omega⟩
  have hfl : f < l.length := by have := HL.out; omega
  have f0 : (0 : Int) ≤ (f : Int) := by omega
  have f1 : (f : Int) < (n : Int) := by have := HL.out; omega
  have hf1n : decide (n ≤ f) = false := decide_eq_false (by omega)
  clear hf0 hf1
  by_cases hi0 : i < 0
  · have hi0i : decide (i < 0) = true := decide_eq_true (hi0)
    clear hi0
    go_wp2_with fail
    go_ret
    exact ⟨rfl, A.out.g⟩
  have hi0i : decide (i < 0) = false := decide_eq_false (hi0)
  by_cases hi1 : (n : Int) ≤ i
  · have hi1i : decide ((n : Int) ≤ i) = true := decide_eq_true (hi1)
    clear hi1
    go_wp2_with fail
    go_ret
    exact ⟨rfl, A.out.g⟩
  have hi1i : decide ((n : Int) ≤ i) = false := decide_eq_false (hi1)
  obtain ⟨i, rfl⟩ : ∃ i' : Nat, i = i' := ⟨i.toNat, by omega⟩
  have hil : i < l.length := by have := HL.out; omega
  have i0 : (0 : Int) ≤ (i : Int) := by omega
  have i1 : (i : Int) < (n : Int) := by have := HL.out; omega
  have hi1n : decide (n ≤ i) = false := decide_eq_false (by omega)
  have HA := Lib.hid (fun W (g : SlE Ene W (.slice p n cp) l) => HLs.out ⟨p, n, cp⟩ l j (f : Int) W Bj.out g)
  rw [leads_yes HM.out] at HA
  have HC := Lib.hid (fun W (g : SlE Ene W (.slice p n cp) l) => HLf.out ⟨p, n, cp⟩ l j (f : Int) (i : Int) W Bj.out (by have := HM.out.le; omega) g)
  have HK := Lib.hid (fun W (g : SlE Ene W (.slice p n cp) l) => (treeKids ⟨p, n, cp⟩ l (i : Int) W g).mono fun _ _ h => h.list)
  rw [show kidsI l (i : Int) = (kidsT l i).map (fun k : Nat => (k : Int)) from by unfold kidsI; rw [kidsZ_nat HM.out hil]] at HK
  have HB1 := Lib.hid (fun W (g : SlE Ene W (.slice p n cp) l) => treeAbove ⟨p, n, cp⟩ l (i : Int) (f : Int) W g)
  rw [aboveZ_nat HM.out hil hfl] at HB1
  have HB2 := Lib.hid (fun W (g : SlE Ene W (.slice p n cp) l) => treeAbove ⟨p, n, cp⟩ l (f : Int) (i : Int) W g)
  rw [aboveZ_nat HM.out hfl hil] at HB2
  have hall := orK_all (j := j) (f := (f : Int)) HM.out hil
  have hsucc := orK_succ l j (f : Int) i (kidsT l i)
  have hz0 : orK l j (f : Int) i (kidsT l i) 0 = leafT l j (f : Int) (i : Int) := by unfold orK anyB; simp
  have hat := boosT_at (p := leadB l j (f : Int)) hil
  have hside : leadB l j (f : Int) i = true → aboveT l i f = true ∨ aboveT l f i = true := fun e => by
    obtain ⟨f2, e1, _, e3⟩ := (law_leads HM.out hil).2 e
    obtain rfl : f = f2 := by omega
    exact e3
  have hkid : ∀ z, z < (kidsT l i).length → (kidsT l i).getD z 0 < l.length := fun z hz => by
    rw [List.getD_eq_getElem?_getD, List.getElem?_eq_getElem hz]
    exact (mem_kids.1 (List.getElem_mem hz)).1
  have hkl : (kidsT l i).length ≤ l.length := by
    have := List.length_filter_le (fun k => decide ((nd l k).parent = (i : Int))) (List.range l.length)
    rw [List.length_range] at this
    exact this
  rw [← hat] at hall hside
  have HSu : Hid (∀ z, z < (kidsT l i).length → orK l j (f : Int) i (kidsT l i) (z + 1) = (orK l j (f : Int) i (kidsT l i) z || bn (boosT (leadB l j (f : Int)) l.length) ((kidsT l i).getD z 0))) := fun z hz => by rw [hsucc, boosT_at (hkid z hz)]
  generalize kidsT l i = K at *
  generalize orK l j (f : Int) i K = OR at *
  rw [← hz0] at HC
  obtain ⟨bi, hbi⟩ : ∃ bi, bi = bn (boosT (leadB l j (f : Int)) l.length) i := ⟨_, rfl⟩
  rw [← hbi] at hall hside
  generalize aboveT l i f = a1 at *
  generalize aboveT l f i = a2 at *
  obtain ⟨m, hm⟩ : ∃ m, m = K.length := ⟨_, rfl⟩
  rw [← hm] at hall hkid hkl HSu
  have HKm : Hid ((K.map (fun k : Nat => (k : Int))).length = m) := by show _ = _; rw [List.length_map, hm]
  have HKg : Hid (∀ z, z < m → (K.map (fun k : Nat => (k : Int))).getD z 0 = (K.getD z 0 : Int)) := fun z hz => by simp [List.getD_eq_getElem?_getD, List.getElem?_eq_getElem (show z < K.length by omega)]
  have HAll := Lib.hid hall
  have HSide := Lib.hid hside
  have Hkid := Lib.hid hkid
  have Hm12 : Hid (m ≤ 12) := by show m ≤ 12; have := HL.out; have := HN.out; omega
  have HBi := Lib.hid hbi
  have Hil := Lib.hid hil
  have hnn : ((n : Int) != (n : Int)) = false := by simp
  clear hi0 hi1 hil hfl hat hall hsucc hz0 hside hkid hkl hbi hm
  go_wp2_with fail
  refine (HA.out _ A.out.s).mono ?_
  rintro e w3 ⟨va, rfl, hv, g⟩
  replace A := Lib.hid (A.out.keep g)
  obtain ⟨pV, cV, rfl⟩ := slE_len hv (n := n) (by rw [boosT_len, HL.out])
  have V := Lib.hid hv
  clear hv
  clear g
  replace z1 := A.out.z1
  replace z0 := A.out.z0
  rw [sv_mk] at z0
  go_wp2_with fail
  refine (HK.out _ A.out.s).mono ?_
  rintro e w4 ⟨vk, rfl, hk, g⟩
  replace A := Lib.hid (A.out.keep g)
  replace V := Lib.hid (slE_keep g V.out)
  obtain ⟨pk, ck, rfl⟩ := slE_len hk HKm.out
  have VK := Lib.hid hk
  clear hk
  clear g
  replace z1 := A.out.z1
  replace z0 := A.out.z0
  rw [sv_mk] at z0
  go_wp2_with fail
  refine (HC.out _ A.out.s).mono ?_
  rintro e w5 ⟨rfl, g⟩
  replace A := Lib.hid (A.out.keep g)
  replace V := Lib.hid (slE_keep g V.out)
  replace VK := Lib.hid (slE_keep g VK.out)
  clear g
  replace z1 := A.out.z1
  replace z0 := A.out.z0
  rw [sv_mk] at z0
  obtain ⟨bV, oV, rfl, _, xV⟩ := boos_ptr V.out (by rw [boosT_len]; have := HM.out.pos; omega)
  have yi := boos_cell xV (i := i) (by rw [boosT_len]; exact Hil.out)
  rw [← HBi.out] at yi
  have XV := Lib.hid xV
  clear xV
  go_wp2_with fail
  go_loopw [12, 13] (fun v k wr => ∃ q : Nat, q ≤ m ∧ k = .int .i64 (q : Int) ∧ v = .bool (OR q) ∧ wr = w5) (fun _ k _ => m - (intOf k).toNat)
  case atStart => exact ⟨0, Nat.zero_le _, rfl, rfl, rfl⟩
  case round =>
    obtain ⟨q, hq, rfl, rfl, rfl⟩ := hrel
    by_cases hlt : q < m
    · have i0 : (0 : Int) ≤ (q : Int) := by omega
      have i1 : (q : Int) < (m : Int) := by omega
      have u1 : (q : Int) + 1 < 10000 := by have := Hm12.out; omega
      obtain ⟨bK, oK, rfl, _, xK⟩ := ints_ptr VK.out (by rw [HKm.out]; omega)
      have yk := ints_at xK (i := q) (by rw [HKm.out]; exact hlt)
      rw [HKg.out q hlt] at yk
      have hc := Hkid.out q hlt
      have yc := boos_cell XV.out (i := K.getD q 0) (by rw [boosT_len]; exact hc)
      have HE := Lib.hid (HSu.out q hlt)
      obtain ⟨c, hcc⟩ : ∃ c, c = K.getD q 0 := ⟨_, rfl⟩
      rw [← hcc] at yk yc hc HE
      generalize bn (boosT (leadB l j (f : Int)) l.length) c = bc at *
      obtain ⟨o, ho⟩ : ∃ o, o = OR q := ⟨_, rfl⟩
      rw [← ho] at HE
      rw [← ho]
      have c0 : decide ((0 : Int) ≤ (c : Int)) = true := decide_eq_true (by omega)
      have c1 : decide ((c : Int) < (n : Int)) = true := decide_eq_true (by have := HL.out; omega)
      have c1' : decide (c < n) = true := decide_eq_true (by have := HL.out; omega)
      have c2 : (0 : Int) ≤ (c : Int) := by omega
      have c3 : (c : Int) < (n : Int) := by have := HL.out; omega
      have HLT := Lib.hid hlt
      clear hlt hc hcc ho xK yi
      cases o <;> cases bc <;> (
        go_wp2_with fail
        go_roundw
        case rel => exact ⟨q + 1, HLT.out, by go_num, by rw [HE.out]; rfl, by first | rfl | trivial⟩
        case measure => simp [intOf]; have := HLT.out; omega)
    · obtain rfl : q = m := by omega
      clear hlt
      rw [HAll.out]
      cases bi
      · skip
        go_wp2_with fail
        go_ret
        exact ⟨rfl, A.out.g⟩
      · cases a1
        · obtain rfl : a2 = true := by rcases HSide.out rfl with e | e; (· cases e); (· exact e)
          go_wp2_with fail
          refine (HB1.out _ A.out.s).mono ?_
          rintro e w9 ⟨rfl, g⟩
          replace A := Lib.hid (A.out.keep g)
          clear g
          replace z1 := A.out.z1
          go_wp2_with fail
          refine (HB2.out _ A.out.s).mono ?_
          rintro e w9 ⟨rfl, g⟩
          replace A := Lib.hid (A.out.keep g)
          clear g
          replace z1 := A.out.z1
          go_wp2_with fail
          go_ret
          exact ⟨rfl, A.out.g⟩
        · skip
          go_wp2_with fail
          refine (HB1.out _ A.out.s).mono ?_
          rintro e w9 ⟨rfl, g⟩
          replace A := Lib.hid (A.out.keep g)
          clear g
          replace z1 := A.out.z1
          go_wp2_with fail
          go_ret
          exact ⟨rfl, A.out.g⟩
/-- The law. -/
theorem viewLeadsL (HLs : LeadsC) (HLf : LeafC) (HFr : FromC) (s : Tr) (l : List Nd) (j : UInt64) (f : Int) (i : Int) (w : World) (h : SlE Ene w (sv s.n) l) :
    Calls Try.prog 4 #[.agg (tr s), .int .u64 (j.toNat : Int), .int .i64 f, .int .i64 i] w fun e w' => e = .returned (.bool true) ∧ Below w.heap.size w w' := by
  obtain ⟨s⟩ := s
  have hn := sv_lenN h
  obtain ⟨p, n, cp⟩ := s
  exact viewLeads_n HLs HLf HFr p n cp l j.toNat f i w h hn j.toNat_lt
end Go.Proofs.Ytanoijcgkacnmaa
