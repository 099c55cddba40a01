/-
  The law TreeAt, walked.
-/
import Derived.Test.YtnehebipikhejaaLaw06
namespace Go.Proofs.Ytnehebipikhejaa
open Go.RowKit

set_option maxRecDepth 100000 in
set_option maxHeartbeats 4000000 in
theorem treeAtL_no (s : SlV) (l : List Nd) (i : Int) (q t : UInt64) (w : World) (h : SlE Ene w (sv s) l) (hm : decide (MayT l) = false) :
    Calls Try.prog 6 #[.agg (tr ⟨s⟩), .int .i64 i, .int .u64 (q.toNat : Int), .int .u64 (t.toNat : Int)] w fun e w' => e = .returned (.bool true) ∧ Below w.heap.size w w' := by
  have HM := Lib.hid (fun W (g : Below w.heap.size w W) => treeMay s l W (slE_keep g h))
  rw [hm] at HM
  obtain ⟨W0, hW0⟩ : ∃ W0, W0 = w.alloc (.cells (tr ⟨s⟩) 24) := ⟨_, rfl⟩
  have HB : Hid (Below w.heap.size w W0) := by rw [hW0]; exact below1
  have M0 : Hid (W0.heap[w.heap.size]? = some (.cells (tr ⟨s⟩) 24 (0, 0))) := by rw [hW0]; exact heap_alloc_last w _
  have HW := Lib.hid hW0
  clear hW0 h hm
  go_enter Try.func6, Try.ntmps6
  go_wp2_with fail
  rw [← HW.out]
  refine (awake_any _).mono ?_
  rintro e w1 ⟨rfl, g1⟩
  have G1 := Lib.hid (belowT HB.out g1)
  have z1 := (tr_cells (blk_keep g1 M0.out)).2.1
  clear g1
  go_wp2_with fail
  refine (HM.out w1 G1.out).mono ?_
  rintro e w2 ⟨rfl, g2⟩
  have G2 := Lib.hid (belowT G1.out g2)
  clear g2 z1
  go_wp2_with fail
  go_ret
  exact ⟨rfl, G2.out⟩

/-- What the loop asks of each node. -/
def betwF (l : List Nd) (i a s : Nat) : Prop := ∀ k, k < l.length → (aboveZ l (k : Int) (i : Int) = false ∨ aboveZ l (k : Int) (a : Int) = true ∨ s < sl l k)

set_option maxRecDepth 100000 in
set_option maxHeartbeats 8000000 in
theorem treeAtL_yes (b1 o1 n cp : Nat) (l : List Nd) (i : Int) (q t : UInt64) (w : World) (h : SlE Ene w (.slice (some ⟨b1, o1, none⟩) n cp) l) (hx : w.rangeAt b1 o1 (cellsE Ene l)) (hl : l.length = n) (hm : MayT l) :
    Calls Try.prog 6 #[.agg (tr ⟨⟨some ⟨b1, o1, none⟩, n, cp⟩⟩), .int .i64 i, .int .u64 (q.toNat : Int), .int .u64 (t.toNat : Int)] w fun e w' => e = .returned (.bool true) ∧ Below w.heap.size w w' := by
  have HM : Hid (∀ W, SlE Ene W (.slice (some ⟨b1, o1, none⟩) n cp) l → Calls Try.prog 24 #[.agg (tr ⟨⟨some ⟨b1, o1, none⟩, n, cp⟩⟩)] W fun e w' => e = .returned (.bool true) ∧ Below W.heap.size W w') := fun W g => by
    have := treeMay ⟨some ⟨b1, o1, none⟩, n, cp⟩ l W g
    rwa [decide_eq_true hm] at this
  have HA : Hid (∀ W, SlE Ene W (.slice (some ⟨b1, o1, none⟩) n cp) l → ∀ i k, Calls Try.prog 26 #[.agg (tr ⟨⟨some ⟨b1, o1, none⟩, n, cp⟩⟩), .int .i64 i, .int .i64 k] W fun e w' => e = .returned (.bool (aboveZ l i k)) ∧ Below W.heap.size W w') := fun W g i k => treeAbove ⟨some ⟨b1, o1, none⟩, n, cp⟩ l i k W g
  have HT : Hid (∀ W, SlE Ene W (.slice (some ⟨b1, o1, none⟩) n cp) l → ∀ i (q : UInt64), Calls Try.prog 27 #[.agg (tr ⟨⟨some ⟨b1, o1, none⟩, n, cp⟩⟩), .int .i64 i, .int .u64 (q.toNat : Int)] W fun e w' => e = .returned (.int .i64 (atZ l i q.toNat)) ∧ Below W.heap.size W w') := fun W g i q => treeAt ⟨some ⟨b1, o1, none⟩, n, cp⟩ l i q W g
  have V : Hid (Tv w (w.alloc (.cells (tr ⟨⟨some ⟨b1, o1, none⟩, n, cp⟩⟩) 24)) w.heap.size b1 o1 n cp l) := ⟨heap_alloc_last w _, slE_keep below1 h, keepR below1 hx, below1⟩
  have HL := Lib.hid hl
  have HMm := Lib.hid hm
  have HN : Hid (n ≤ 12) := by show n ≤ 12; have := hm.le; omega
  clear h hx hl hm
  go_enter Try.func6, Try.ntmps6
  go_wp2_with fail
  refine (awake_any _).mono ?_
  rintro e w1 ⟨rfl, g⟩
  replace V := Lib.hid (V.out.keep g)
  have z0 := V.out.z0
  have z1 := V.out.z1
  clear g
  go_wp2_with fail
  refine (HM.out w1 V.out.s).mono ?_
  rintro e w2 ⟨rfl, g⟩
  replace V := Lib.hid (V.out.keep g)
  replace z0 := V.out.z0
  replace z1 := V.out.z1
  clear g
  by_cases ha : i < 0
  · have t0 : decide (i < 0) = true := decide_eq_true ha
    clear ha
    go_wp2_with fail
    go_ret
    exact ⟨rfl, V.out.g⟩
  have t0 : decide (i < 0) = false := decide_eq_false ha
  by_cases ha' : (n : Int) ≤ i
  · have t3 : decide ((n : Int) ≤ i) = true := decide_eq_true ha'
    clear ha'
    go_wp2_with fail
    go_ret
    exact ⟨rfl, V.out.g⟩
  have t3 : decide ((n : Int) ≤ i) = false := decide_eq_false ha'
  by_cases hq : q.toNat < t.toNat
  · have t4 : decide ((q.toNat : Int) < (t.toNat : Int)) = true := decide_eq_true (by omega)
    have t4' : decide (q.toNat < t.toNat) = true := decide_eq_true hq
    clear hq ha ha'
    go_wp2_with fail
    go_ret
    exact ⟨rfl, V.out.g⟩
  have t4 : decide ((q.toNat : Int) < (t.toNat : Int)) = false := decide_eq_false (by omega)
  have t4' : decide (q.toNat < t.toNat) = false := decide_eq_false hq
  obtain ⟨i', rfl⟩ : ∃ i' : Nat, i = i' := ⟨i.toNat, by omega⟩
  have hi : i' < l.length := by have := HL.out; omega
  have t3' : decide (n ≤ i') = false := decide_eq_false (by omega)
  have LAW := Lib.hid (law_at HMm.out (i := i') (s := q.toNat) (t := t.toNat) hi (by omega))
  have HI := Lib.hid hi
  have ez : Hid (∀ i k : Nat, i < l.length → k < l.length → aboveZ l (i : Int) (k : Int) = aboveT l i k) := fun i k hi hk => aboveZ_nat HMm.out hi hk
  have Ha := Lib.hid (fun W g => HT.out W g (i' : Int) q)
  have Hb := Lib.hid (fun W g => HT.out W g (i' : Int) t)
  rw [atZ_nat HMm.out hi] at Ha Hb
  clear ha ha' hq hi
  rcases LAW.out with ⟨e1, e2, e3⟩ | ⟨a, e1, hal, hai, hsa, hbt, hbb⟩
  · rw [e1] at Ha
    rw [e2] at Hb
    have E3 := Lib.hid e3
    clear e1 e2 e3 LAW
    go_wp2_with fail
    refine (Ha.out w2 V.out.s).mono ?_
    rintro e w3 ⟨rfl, g⟩
    replace V := Lib.hid (V.out.keep g)
    replace z0 := V.out.z0
    replace z1 := V.out.z1
    clear g
    go_wp2_with fail
    refine (Hb.out w3 V.out.s).mono ?_
    rintro e w4 ⟨rfl, g⟩
    replace V := Lib.hid (V.out.keep g)
    replace z0 := V.out.z0
    replace z1 := V.out.z1
    clear g
    have y0 := nds_slot V.out.x (i := 0) (by have := HI.out; omega)
    rw [Nat.zero_mul, Nat.add_zero] at y0
    have t5 : decide ((q.toNat : Int) < ((nd l 0).slot.toNat : Int)) = true := decide_eq_true (by have := E3.out; unfold sl at this; omega)
    have t5' : decide (q.toNat < (nd l 0).slot.toNat) = true := decide_eq_true E3.out
    have u0 : 0 < n := by have := HI.out; have := HL.out; omega
    go_wp2_with fail
    go_ret
    exact ⟨rfl, V.out.g⟩
  · have a0 : (0 : Int) ≤ (a : Int) := by omega
    have t5 : decide ((a : Int) < 0) = false := decide_eq_false (by omega)
    rw [e1] at Ha
    have HAL := Lib.hid hal
    have HSA := Lib.hid hsa
    have Aai := Lib.hid (fun W g => HA.out W g (a : Int) (i' : Int))
    rw [ez.out a i' hal HI.out, hai] at Aai
    have HBT : Hid (betwF l i' a q.toNat) := fun k hk => by
      rw [ez.out k i' hk HI.out, ez.out k a hk hal]
      cases h1 : aboveT l k i'
      · exact .inl rfl
      · cases h2 : aboveT l k a
        · exact .inr (.inr (hbt k hk h1 h2))
        · exact .inr (.inl rfl)
    have HBB : Hid (atT l i' t.toNat = -1 ∨ ∃ b : Nat, atT l i' t.toNat = b ∧ b < l.length ∧ aboveZ l (b : Int) (a : Int) = true) := hbb.imp id (fun ⟨b, e, hb, hab⟩ => ⟨b, e, hb, by rw [ez.out b a hb hal]; exact hab⟩)
    clear e1 hal hai hsa hbt hbb LAW
    go_wp2_with fail
    refine (Ha.out w2 V.out.s).mono ?_
    rintro e w3 ⟨rfl, g⟩
    replace V := Lib.hid (V.out.keep g)
    replace z0 := V.out.z0
    replace z1 := V.out.z1
    clear g
    go_wp2_with fail
    refine (Hb.out w3 V.out.s).mono ?_
    rintro e w4 ⟨rfl, g⟩
    replace V := Lib.hid (V.out.keep g)
    replace z0 := V.out.z0
    replace z1 := V.out.z1
    clear g
    obtain ⟨b, hb⟩ : ∃ b, b = atT l i' t.toNat := ⟨_, rfl⟩
    rw [← hb] at HBB ⊢
    clear hb
    go_wp2_with fail
    go_loopw [12] (fun k wr => ∃ j : Nat, j ≤ n ∧ k = .int .i64 (j : Int) ∧ Tv w wr w.heap.size b1 o1 n cp l) (fun k _ => n - (intOf k).toNat)
    case atStart => exact ⟨0, Nat.zero_le _, rfl, V.out⟩
    case round =>
      obtain ⟨j, hj, rfl, hv⟩ := hrel
      replace V := Lib.hid hv
      replace z0 := V.out.z0
      replace z1 := V.out.z1
      clear hv
      by_cases hlt : j < n
      · have i0 : (0 : Int) ≤ (j : Int) := by omega
        have i1 : (j : Int) < (n : Int) := by omega
        have u1 : (j : Int) + 1 < 10000 := by have := HN.out; omega
        have B := Lib.hid (HBT.out j (by have := HL.out; omega))
        have A1 := Lib.hid (fun W g => HA.out W g (j : Int) (i' : Int))
        have A2 := Lib.hid (fun W g => HA.out W g (j : Int) (a : Int))
        obtain ⟨r1, hr1⟩ : ∃ r, r = aboveZ l (j : Int) (i' : Int) := ⟨_, rfl⟩
        obtain ⟨r2, hr2⟩ : ∃ r, r = aboveZ l (j : Int) (a : Int) := ⟨_, rfl⟩
        rw [← hr1] at A1 B
        rw [← hr2] at A2 B
        have HLT := Lib.hid hlt
        have HJ := Lib.hid hj
        clear hr1 hr2 hlt hj
        go_wp2_with fail
        refine (A1.out wr V.out.s).mono ?_
        rintro e w5 ⟨rfl, g⟩
        replace V := Lib.hid (V.out.keep g)
        replace z0 := V.out.z0
        replace z1 := V.out.z1
        clear g
        cases r1
        · go_wp2_with fail
          go_roundw
          case rel => exact ⟨j + 1, HLT.out, by go_num, V.out⟩
          case measure => simp [intOf]; have := HLT.out; omega
        · go_wp2_with fail
          refine (A2.out w5 V.out.s).mono ?_
          rintro e w6 ⟨rfl, g⟩
          replace V := Lib.hid (V.out.keep g)
          replace z0 := V.out.z0
          replace z1 := V.out.z1
          clear g
          cases r2
          · have y2 := nds_slot V.out.x (i := j) (by have := HL.out; have := HLT.out; omega)
            have hs : q.toNat < (nd l j).slot.toNat := by
              rcases B.out with h | h | h
              · cases h
              · cases h
              · exact h
            have t6 : decide (((nd l j).slot.toNat : Int) ≤ (q.toNat : Int)) = false := decide_eq_false (by omega)
            have t6' : decide ((nd l j).slot.toNat ≤ q.toNat) = false := decide_eq_false (by omega)
            clear hs
            go_wp2_with fail
            go_roundw
            case rel => exact ⟨j + 1, HLT.out, by go_num, V.out⟩
            case measure => simp [intOf]; have := HLT.out; omega
          · go_wp2_with fail
            go_roundw
            case rel => exact ⟨j + 1, HLT.out, by go_num, V.out⟩
            case measure => simp [intOf]; have := HLT.out; omega
      · obtain rfl : j = n := by omega
        clear hlt
        have i1 : (a : Int) < (j : Int) := by have := HAL.out; have := HL.out; omega
        go_wp2_with fail
        refine (Aai.out wr V.out.s).mono ?_
        rintro e w5 ⟨rfl, g⟩
        replace V := Lib.hid (V.out.keep g)
        replace z0 := V.out.z0
        replace z1 := V.out.z1
        clear g
        have y2 := nds_slot V.out.x (i := a) HAL.out
        have t6 : decide (((nd l a).slot.toNat : Int) ≤ (q.toNat : Int)) = true := decide_eq_true (by have := HSA.out; unfold sl at this; omega)
        have t6' : decide ((nd l a).slot.toNat ≤ q.toNat) = true := decide_eq_true HSA.out
        rcases HBB.out with rfl | ⟨b', rfl, hb', hab⟩
        · go_wp2_with fail
          go_ret
          exact ⟨rfl, V.out.g⟩
        · have t7 : ((b' : Int) == -1) = false := by rw [beq_eq_false_iff_ne]; omega
          have Aba := Lib.hid (fun W g => HA.out W g (b' : Int) (a : Int))
          rw [hab] at Aba
          clear hb' hab
          go_wp2_with fail
          refine (Aba.out w5 V.out.s).mono ?_
          rintro e w6 ⟨rfl, g⟩
          replace V := Lib.hid (V.out.keep g)
          clear g z0 z1 y2
          go_wp2_with fail
          go_ret
          exact ⟨rfl, V.out.g⟩
/-- The law. -/
theorem treeAtL (x : Tr) (l : List Nd) (i : Int) (q t : UInt64) (w : World) (h : SlE Ene w (sv x.n) l) :
    Calls Try.prog 6 #[.agg (tr x), .int .i64 i, .int .u64 (q.toNat : Int), .int .u64 (t.toNat : Int)] w fun e w' => e = .returned (.bool true) ∧ Below w.heap.size w w' := by
  obtain ⟨s⟩ := x
  by_cases hm : MayT l
  · have hn := sv_lenN h
    obtain ⟨p, n, cp⟩ := s
    dsimp only at hn
    subst hn
    obtain ⟨b1, o1, rfl, _, hx⟩ := slE_ptr h hm.pos
    exact treeAtL_yes b1 o1 _ cp l i q t w h hx rfl hm
  · exact treeAtL_no s l i q t w h (decide_eq_false hm)
end Go.Proofs.Ytnehebipikhejaa
