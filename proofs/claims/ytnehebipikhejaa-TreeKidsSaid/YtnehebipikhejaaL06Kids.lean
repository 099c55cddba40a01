/-
  The law TreeKids, walked.
-/
import Derived.Test.YtnehebipikhejaaLaw06
import Derived.Test.YtnehebipikhejaaCutR
namespace Go.Proofs.Ytnehebipikhejaa
open Go.RowKit

set_option maxRecDepth 100000 in
set_option maxHeartbeats 4000000 in
theorem treeKidsL_no (s : SlV) (l : List Nd) (i : Int) (w : World) (h : SlE Ene w (sv s) l) (hm : decide (MayT l) = false) :
    Calls Try.prog 8 #[.agg (tr ⟨s⟩), .int .i64 i] w fun e w' => e = .returned (.bool true) ∧ Below w.heap.size w w' := by
  have HM := Lib.hid (fun W (g : Below w.heap.size w W) => treeMay s l W (slE_keep g h))
  rw [hm] at HM
  obtain ⟨W0, hW0⟩ : ∃ W0, W0 = w.alloc (.cells (tr ⟨s⟩) 24) := ⟨_, rfl⟩
  have HB : Hid (Below w.heap.size w W0) := by rw [hW0]; exact below1
  have M0 : Hid (W0.heap[w.heap.size]? = some (.cells (tr ⟨s⟩) 24 (0, 0))) := by rw [hW0]; exact heap_alloc_last w _
  have HW := Lib.hid hW0
  clear hW0 h hm
  go_enter Try.func8, Try.ntmps8
  go_wp2_with fail
  rw [← HW.out]
  refine (awake_any _).mono ?_
  rintro e w1 ⟨rfl, g1⟩
  have G1 := Lib.hid (belowT HB.out g1)
  have z1 := (tr_cells (blk_keep g1 M0.out)).2.1
  clear g1
  go_wp2_with fail
  refine (HM.out w1 G1.out).mono ?_
  rintro e w2 ⟨rfl, g2⟩
  have G2 := Lib.hid (belowT G1.out g2)
  clear g2 z1
  go_wp2_with fail
  go_ret
  exact ⟨rfl, G2.out⟩

/-! ### Children, one by one -/
section
variable {l : List Nd}
def kidN (l : List Nd) (k m : Nat) : Nat := (kidsT l k).getD m 0
theorem kid_mem {k m : Nat} (h : m < (kidsT l k).length) : kidN l k m ∈ kidsT l k := by
  unfold kidN
  rw [List.getD_eq_getElem?_getD, List.getElem?_eq_getElem h]
  exact List.getElem_mem h
theorem kid_rise {k m : Nat} (h : m + 1 < (kidsT l k).length) : kidN l k m < kidN l k (m + 1) := by
  have hp : (kidsT l k).Pairwise (· < ·) := range_filter_rises _ _
  have := List.pairwise_iff_getElem.1 hp m (m + 1) (by omega) h (by omega)
  unfold kidN
  rw [List.getD_eq_getElem?_getD, List.getD_eq_getElem?_getD, List.getElem?_eq_getElem h, List.getElem?_eq_getElem (by omega : m < (kidsT l k).length)]
  exact this
/-- How often i was met, behind so many nodes and so many of the next one's children. -/
def metN (l : List Nd) (i k m : Nat) : Nat := bornT l i k + ((kidsT l k).take m).count i
theorem met_zero (i k : Nat) : metN l i k 0 = bornT l i k := by unfold metN; simp
theorem met_all (h : MayT l) {i k : Nat} (hi : i < l.length) : metN l i k (kidsT l k).length = bornT l i (k + 1) := by
  unfold metN
  rw [List.take_length, born_succ h hi]
theorem met_succ {i k m : Nat} (h : m < (kidsT l k).length) : metN l i k (m + 1) = metN l i k m + if kidN l k m = i then 1 else 0 := by
  unfold metN kidN
  rw [List.take_succ_eq_append_getElem h, List.count_append, List.getD_eq_getElem?_getD, List.getElem?_eq_getElem h, Option.getD_some, Nat.add_assoc]
  congr 2
  rw [List.count_singleton]
  by_cases e : (kidsT l k)[m] = i
  · rw [if_pos e, if_pos (by simpa using e)]
  · rw [if_neg e, if_neg (by simpa using e)]
theorem met_le (i k m : Nat) : metN l i k m ≤ 1 + m := by
  unfold metN bornT
  have h1 := List.count_le_length (a := i) (l := (kidsT l k).take m)
  have h2 := List.length_take_le m (kidsT l k)
  split <;> omega
theorem kids_len (k : Nat) : (kidsT l k).length ≤ l.length := by
  unfold kidsT
  have := List.length_filter_le (fun j => decide ((nd l j).parent = (k : Int))) (List.range l.length)
  rw [List.length_range] at this
  exact this
theorem kidsI_get (h : MayT l) {k m : Nat} (hk : k < l.length) : (kidsI l (k : Int)).getD m 0 = (kidN l k m : Int) ∧ (kidsI l (k : Int)).length = (kidsT l k).length := by
  unfold kidsI kidN
  rw [kidsZ_nat h hk]
  constructor
  · rw [List.getD_eq_getElem?_getD, List.getD_eq_getElem?_getD, List.getElem?_map]
    cases (kidsT l k)[m]? <;> rfl
  · rw [List.length_map]
end

set_option maxRecDepth 100000 in
set_option maxHeartbeats 8000000 in
theorem treeKidsL_yes (b1 o1 n cp : Nat) (l : List Nd) (i : Int) (w : World) (h : SlE Ene w (.slice (some ⟨b1, o1, none⟩) n cp) l) (hx : w.rangeAt b1 o1 (cellsE Ene l)) (hl : l.length = n) (hm : MayT l) :
    Calls Try.prog 8 #[.agg (tr ⟨⟨some ⟨b1, o1, none⟩, n, cp⟩⟩), .int .i64 i] w fun e w' => e = .returned (.bool true) ∧ Below w.heap.size w w' := by
  have HM : Hid (∀ W, SlE Ene W (.slice (some ⟨b1, o1, none⟩) n cp) l → Calls Try.prog 24 #[.agg (tr ⟨⟨some ⟨b1, o1, none⟩, n, cp⟩⟩)] W fun e w' => e = .returned (.bool true) ∧ Below W.heap.size W w') := fun W g => by
    have := treeMay ⟨some ⟨b1, o1, none⟩, n, cp⟩ l W g
    rwa [decide_eq_true hm] at this
  have HK : Hid (∀ W, SlE Ene W (.slice (some ⟨b1, o1, none⟩) n cp) l → ∀ k, Calls Try.prog 20 #[.agg (tr ⟨⟨some ⟨b1, o1, none⟩, n, cp⟩⟩), .int .i64 k] W (IntsIs (kidsI l k) W)) := fun W g k => treeKids ⟨some ⟨b1, o1, none⟩, n, cp⟩ l k W g
  have V : Hid (Tv w (w.alloc (.cells (tr ⟨⟨some ⟨b1, o1, none⟩, n, cp⟩⟩) 24)) w.heap.size b1 o1 n cp l) := ⟨heap_alloc_last w _, slE_keep below1 h, keepR below1 hx, below1⟩
  have HL := Lib.hid hl
  have HMm := Lib.hid hm
  have HN : Hid (n ≤ 12) := by show n ≤ 12; have := hm.le; omega
  clear h hx hl hm
  go_enter Try.func8, Try.ntmps8
  go_wp2_with fail
  refine (awake_any _).mono ?_
  rintro e w1 ⟨rfl, g⟩
  replace V := Lib.hid (V.out.keep g)
  have z0 := V.out.z0
  have z1 := V.out.z1
  clear g
  go_wp2_with fail
  refine (HM.out w1 V.out.s).mono ?_
  rintro e w2 ⟨rfl, g⟩
  replace V := Lib.hid (V.out.keep g)
  replace z0 := V.out.z0
  replace z1 := V.out.z1
  clear g
  by_cases ha : i < 0
  · have t0 : decide (i < 0) = true := decide_eq_true ha
    clear ha
    go_wp2_with fail
    go_ret
    exact ⟨rfl, V.out.g⟩
  have t0 : decide (i < 0) = false := decide_eq_false ha
  by_cases ha' : (n : Int) ≤ i
  · have t3 : decide ((n : Int) ≤ i) = true := decide_eq_true ha'
    clear ha'
    go_wp2_with fail
    go_ret
    exact ⟨rfl, V.out.g⟩
  have t3 : decide ((n : Int) ≤ i) = false := decide_eq_false ha'
  obtain ⟨i', rfl⟩ : ∃ i' : Nat, i = i' := ⟨i.toNat, by omega⟩
  have hi : i' < l.length := by have := HL.out; omega
  have t3' : decide (n ≤ i') = false := decide_eq_false (by omega)
  have HI := Lib.hid hi
  clear ha ha' hi
  go_wp2_with fail
  go_loopw [6, 7] (fun c k wr => ∃ j : Nat, j ≤ n ∧ k = .int .i64 (j : Int) ∧ c = .int .i64 (bornT l i' j : Int) ∧ Tv w wr w.heap.size b1 o1 n cp l) (fun _ k _ => n - (intOf k).toNat)
  case atStart => exact ⟨0, Nat.zero_le _, rfl, by rw [born_zero]; rfl, V.out⟩
  case round =>
    obtain ⟨j, hj, rfl, rfl, hv⟩ := hrel
    obtain ⟨wo, rfl⟩ : ∃ wo : World, wo = wr := ⟨_, rfl⟩
    replace V := Lib.hid hv
    replace z0 := V.out.z0
    replace z1 := V.out.z1
    clear hv
    obtain ⟨c0, hc0⟩ : ∃ c0, c0 = bornT l i' j := ⟨_, rfl⟩
    rw [← hc0]
    have HC0 := Lib.hid hc0
    clear hc0
    by_cases hlt : j < n
    · have i0 : (0 : Int) ≤ (j : Int) := by omega
      have i1 : (j : Int) < (n : Int) := by omega
      have u1 : (j : Int) + 1 < 10000 := by have := HN.out; omega
      have HLT := Lib.hid hlt
      have hjl : j < l.length := by have := HL.out; omega
      have HJL := Lib.hid hjl
      clear hlt hjl hj
      go_wp2_with fail
      refine (HK.out wo V.out.s (j : Int)).mono ?_
      rintro e w3 ⟨v, rfl, ho, g⟩
      replace V := Lib.hid (V.out.keep g)
      have O3 := Lib.hid ho
      clear g ho z0 z1
      obtain ⟨nk, hnk⟩ : ∃ nk, nk = (kidsT l j).length := ⟨_, rfl⟩
      have HNK := Lib.hid hnk
      have HNN : Hid (nk ≤ n) := by show nk ≤ n; have := kids_len (l := l) j; have := HL.out; omega
      obtain ⟨vp, vc, hv⟩ := ownE_len O3.out (n := nk) (by rw [hnk]; exact (kidsI_get HMm.out (m := 0) HJL.out).2)
      subst hv
      clear hnk
      have S3 := Lib.hid (ownE_slE O3.out)
      clear O3
      go_wp2_with fail
      go_loopw [6, 9] (fun c q wr => ∃ m : Nat, m ≤ nk ∧ q = .int .i64 (m : Int) ∧ c = .int .i64 (metN l i' j m : Int) ∧ Tv w wr w.heap.size b1 o1 n cp l ∧ SlE Eint wr (.slice vp nk vc) (kidsI l (j : Int))) (fun _ q _ => nk - (intOf q).toNat)
      case atStart => exact ⟨0, Nat.zero_le _, rfl, by rw [met_zero, HC0.out], V.out, S3.out⟩
      case round =>
        obtain ⟨m, hm, rfl, rfl, hv, hs⟩ := hrel
        replace V := Lib.hid hv
        replace S3 := Lib.hid hs
        have z0 := V.out.z0
        have HMM := Lib.hid hm
        clear hv hs hm
        obtain ⟨c1, hc1⟩ : ∃ c1, c1 = metN l i' j m := ⟨_, rfl⟩
        rw [← hc1]
        have HC1 := Lib.hid hc1
        have u3 : (c1 : Int) + 1 < 10000 := by have := met_le (l := l) i' j m; have := HMM.out; have := HNN.out; have := HN.out; omega
        clear hc1
        by_cases hlt : m < nk
        · have j0 : (0 : Int) ≤ (m : Int) := by omega
          have j1 : (m : Int) < (nk : Int) := by omega
          have u2 : (m : Int) + 1 < 10000 := by have := HN.out; have := HNN.out; omega
          have HLT2 := Lib.hid hlt
          have hml : m < (kidsT l j).length := by rw [← HNK.out]; exact hlt
          have HML := Lib.hid hml
          clear hlt hml
          obtain ⟨bv, ov, cv, ev, _, hbv, hrv⟩ := slE_ne S3.out (by rw [(kidsI_get HMm.out (m := 0) HJL.out).2]; have := HML.out; omega)
          have ev' : vp = some ⟨bv, ov, none⟩ := by injection ev
          subst ev'
          clear ev hbv
          have HRV := Lib.hid hrv
          have c1' := int_at hrv (q := m) (by rw [(kidsI_get HMm.out (m := 0) HJL.out).2]; exact HML.out)
          rw [(kidsI_get HMm.out (m := m) HJL.out).1] at c1'
          clear hrv
          obtain ⟨y, hy⟩ : ∃ y, y = kidN l j m := ⟨_, rfl⟩
          rw [← hy] at c1'
          have hmem := kid_mem HML.out
          rw [← hy] at hmem
          obtain ⟨p1, p2, p3⟩ := kids_pos HMm.out hmem
          have p4 := (mem_kids.1 hmem).1
          have HY := Lib.hid hy
          have k0 : (0 : Int) ≤ (y : Int) := by omega
          have k1 : (y : Int) < (n : Int) := by have := HL.out; omega
          have y1 := nds_slot V.out.x (i := y) p4
          have y2 := nds_slot V.out.x (i := j) HJL.out
          have s1 : decide ((y : Int) ≤ (j : Int)) = false := decide_eq_false (by omega)
          have s1' : decide (y ≤ j) = false := decide_eq_false (by omega)
          have s2 : decide ((n : Int) ≤ (y : Int)) = false := decide_eq_false (by omega)
          have s2' : decide (n ≤ y) = false := decide_eq_false (by omega)
          have s3 : decide (((nd l y).slot.toNat : Int) ≤ ((nd l j).slot.toNat : Int)) = false := decide_eq_false (by unfold sl at p2; omega)
          have s3' : decide ((nd l y).slot.toNat ≤ (nd l j).slot.toNat) = false := decide_eq_false (by unfold sl at p2; omega)
          clear hy hmem p1 p2 p3 p4
          obtain ⟨r, hr⟩ : ∃ r, r = decide (y = i') := ⟨_, rfl⟩
          have t5 : ((y : Int) == (i' : Int)) = r := by rw [hr, Bool.eq_iff_iff, beq_iff_eq, decide_eq_true_iff]; omega
          have t5' : (y == i') = r := by rw [hr]; rfl
          have HR : Hid (metN l i' j (m + 1) = if r = true then c1 + 1 else c1) := by
            show _ = _
            rw [met_succ HML.out, ← HC1.out, ← HY.out, hr]
            by_cases e : y = i'
            · rw [if_pos e, if_pos (decide_eq_true e)]
            · rw [if_neg e, if_neg (by rw [decide_eq_false e]; exact Bool.false_ne_true)]; rfl
          clear hr
          by_cases hm0 : m = 0
          · subst hm0
            have c2' : wr.cell? ⟨bv, ov, none⟩ = some (.int .i64 (y : Int)) := by have := c1'; rwa [Nat.add_zero] at this
            cases r
            · go_wp2_with fail
              go_quiet (fail)
              go_wp2_with fail
              go_roundw
              case rel => exact ⟨1, by have := HLT2.out; omega, rfl, by rw [HR.out]; rfl, V.out.keep (belowD (Below.refl _ _) _), slE_keep (belowD (Below.refl _ _) _) S3.out⟩
              case measure => simp [intOf]; have := HLT2.out; omega
            · go_wp2_with fail
              go_quiet (fail)
              go_wp2_with fail
              go_roundw
              case rel => exact ⟨1, by have := HLT2.out; omega, rfl, by rw [HR.out]; go_num, V.out.keep (belowD (Below.refl _ _) _), slE_keep (belowD (Below.refl _ _) _) S3.out⟩
              case measure => simp [intOf]; have := HLT2.out; omega
          · obtain ⟨m', rfl⟩ : ∃ m', m = m' + 1 := ⟨m - 1, by omega⟩
            have c3' := int_at HRV.out (q := m') (by rw [(kidsI_get HMm.out (m := 0) HJL.out).2]; have := HML.out; omega)
            rw [(kidsI_get HMm.out (m := m') HJL.out).1] at c3'
            have hris := kid_rise HML.out
            rw [← HY.out] at hris
            have s4 : decide ((y : Int) ≤ (kidN l j m' : Int)) = false := decide_eq_false (by omega)
            have s4' : decide (y ≤ kidN l j m') = false := decide_eq_false (by omega)
            obtain ⟨y', hy'⟩ : ∃ y', y' = kidN l j m' := ⟨_, rfl⟩
            rw [← hy'] at c3' s4 s4'
            have q0 : (0 : Int) ≤ (m' : Int) := by omega
            have q1 : (m' : Int) < (nk : Int) := by omega
            clear hris hy' hm0
            cases r
            · go_wp2_with fail
              go_quiet (fail)
              go_wp2_with fail
              go_roundw
              case rel => exact ⟨m' + 1 + 1, by have := HLT2.out; omega, by go_num, by rw [HR.out]; rfl, V.out.keep (belowD (Below.refl _ _) _), slE_keep (belowD (Below.refl _ _) _) S3.out⟩
              case measure => simp [intOf]; have := HLT2.out; omega
            · go_wp2_with fail
              go_quiet (fail)
              go_wp2_with fail
              go_roundw
              case rel => exact ⟨m' + 1 + 1, by have := HLT2.out; omega, by go_num, by rw [HR.out]; go_num, V.out.keep (belowD (Below.refl _ _) _), slE_keep (belowD (Below.refl _ _) _) S3.out⟩
              case measure => simp [intOf]; have := HLT2.out; omega
        · obtain rfl : m = nk := by have := HMM.out; omega
          clear hlt
          have HE : Hid (bornT l i' (j + 1) = c1) := by
            show _ = _
            rw [HC1.out, HNK.out, met_all HMm.out HI.out]
          go_wp2_with fail
          go_roundw
          case rel => exact ⟨j + 1, HLT.out, by go_num, by rw [HE.out], V.out⟩
          case measure => simp [intOf]; have := HLT.out; omega
    · obtain rfl : j = n := by omega
      clear hlt
      have hb := born_all HMm.out HI.out
      rw [HL.out, ← HC0.out] at hb
      by_cases h0 : 0 < i'
      · rw [if_pos h0] at hb
        subst hb
        have t6 : decide ((0 : Int) < (i' : Int)) = true := decide_eq_true (by omega)
        have t6' : decide (0 < i') = true := decide_eq_true h0
        clear h0
        go_wp2_with fail
        go_ret
        exact ⟨rfl, V.out.g⟩
      · rw [if_neg h0] at hb
        subst hb
        obtain rfl : i' = 0 := by omega
        clear h0
        go_wp2_with fail
        go_ret
        exact ⟨rfl, V.out.g⟩
/-- The law. -/
theorem treeKidsL (x : Tr) (l : List Nd) (i : Int) (w : World) (h : SlE Ene w (sv x.n) l) :
    Calls Try.prog 8 #[.agg (tr x), .int .i64 i] w fun e w' => e = .returned (.bool true) ∧ Below w.heap.size w w' := by
  obtain ⟨s⟩ := x
  by_cases hm : MayT l
  · have hn := sv_lenN h
    obtain ⟨p, n, cp⟩ := s
    dsimp only at hn
    subst hn
    obtain ⟨b1, o1, rfl, _, hx⟩ := slE_ptr h hm.pos
    exact treeKidsL_yes b1 o1 _ cp l i w h hx rfl hm
  · exact treeKidsL_no s l i w h (decide_eq_false hm)
end Go.Proofs.Ytnehebipikhejaa
