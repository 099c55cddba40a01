/-
  Package view: Leads, walked.
-/
import Derived.Test.YtanoijcgkacnmaaP10Leaf
import Derived.Test.YtanoijcgkacnmaaMarkP
import Derived.Test.YtanoijcgkacnmaaBooO
namespace Go.Proofs.Ytanoijcgkacnmaa
open Go.RowKit

theorem set_boosT {p q : Nat → Bool} {n a : Nat} (h : ∀ i, i < n → q i = if i = a then true else p i) : (boosT p n).set a true = boosT q n := by
  unfold boosT
  refine List.ext_getElem (by simp) fun i h1 h2 => ?_
  have hi : i < n := by simpa using h2
  rw [List.getElem_set]
  simp only [List.getElem_map, List.getElem_range]
  rw [h i hi]
  by_cases e : a = i
  · subst e; simp
  · rw [if_neg e, if_neg (fun x => e x.symm)]
theorem boosT_ext {p q : Nat → Bool} {n : Nat} (h : ∀ i, i < n → q i = p i) : boosT q n = boosT p n := by
  unfold boosT
  exact List.map_congr_left fun i hi => h i (List.mem_range.1 hi)
theorem boosT_no (n : Nat) : boosT (fun _ => false) n = List.replicate n false := by
  unfold boosT
  rw [List.map_const', List.length_range]

set_option maxRecDepth 100000 in
set_option maxHeartbeats 8000000 in
theorem leads_far (p : Option Addr) (n cp : Nat) (l : List Nd) (j : Nat) (f : Int) (w : World) (h : SlE Ene w (.slice p n cp) l) (hm : ¬ MayT l) :
    Calls Try.prog 11 #[.agg (tr ⟨⟨p, n, cp⟩⟩), .int .u64 (j : Int), .int .i64 f] w fun e w' => e = .returned (.slice none 0 0) ∧ Below w.heap.size w w' := by
  have HM := Lib.hid (fun W (g : Below w.heap.size w W) => treeMay ⟨p, n, cp⟩ l W (slE_keep g h))
  rw [decide_eq_false hm] at HM
  obtain ⟨W0, hW0⟩ : ∃ W0, W0 = w.alloc (.cells (tr ⟨⟨p, n, cp⟩⟩) 24) := ⟨_, rfl⟩
  have HB : Hid (Below w.heap.size w W0) := by rw [hW0]; exact below1
  have HW := Lib.hid hW0
  clear h hm hW0
  go_enter Try.func11, Try.ntmps11
  go_wp2_with fail
  go_step3
  go_wp2_with fail
  rw [← HW.out]
  refine (HM.out W0 HB.out).mono ?_
  rintro e w1 ⟨rfl, g1⟩
  have G1 := Lib.hid (belowT HB.out g1)
  clear g1
  go_wp2_with fail
  (try rw [Exit.noGoto_ret])
  go_ret
  exact ⟨rfl, G1.out⟩

set_option maxRecDepth 100000 in
set_option maxHeartbeats 16000000 in
theorem leads_near (p : Option Addr) (n cp : Nat) (l : List Nd) (j : Nat) (f : Int) (w : World) (h : SlE Ene w (.slice p n cp) l) (hl : l.length = n) (hm : MayT l) :
    Calls Try.prog 11 #[.agg (tr ⟨⟨p, n, cp⟩⟩), .int .u64 (j : Int), .int .i64 f] w (BoosIs (boosT (leadB l j f) n) w) := by
  obtain ⟨i, hi, hz0, hz1, hz2⟩ := info_parts info_boo
  have HM := Lib.hid (fun W (g : Below w.heap.size w W) => treeMay ⟨p, n, cp⟩ l W (slE_keep g h))
  rw [decide_eq_true hm] at HM
  have HLv := Lib.hid (fun W (g : Below w.heap.size w W) => viewLeaves ⟨p, n, cp⟩ l j f W (by have := hm.le; omega) (slE_keep g h))
  obtain ⟨ys, hys⟩ : ∃ ys, ys = selN (fun k => leafT l j f (k : Int)) l.length := ⟨_, rfl⟩
  have HY : Hid (leafI l j f = ys.map fun k : Nat => (k : Int)) := by show _ = _; rw [hys]; rfl
  rw [HY.out] at HLv
  have HYb : Hid (∀ y ∈ ys, y < l.length) := fun y hy => by rw [hys] at hy; exact (mem_selN.1 hy).1
  have HYl : Hid (ys.length ≤ n) := by show _ ≤ _; rw [hys, ← hl]; exact selN_len _ _
  have HE : Hid (boosT (leadB l j f) n = boosT (markB l ys) n) := boosT_ext fun i _ => by rw [hys]; exact (mark_all rfl i).symm
  rw [HE.out]
  obtain ⟨W0, hW0⟩ : ∃ W0, W0 = w.alloc (.cells (tr ⟨⟨p, n, cp⟩⟩) 24) := ⟨_, rfl⟩
  have HB : Hid (Below w.heap.size w W0) := by rw [hW0]; exact below1
  have M0 : Hid (W0.heap[w.heap.size]? = some (.cells (tr ⟨⟨p, n, cp⟩⟩) 24 (0, 0))) := by rw [hW0]; exact heap_alloc_last w _
  have HW := Lib.hid hW0
  have HMm := Lib.hid hm
  have HL := Lib.hid hl
  have HN : Hid (n ≤ 12) := by show n ≤ 12; have := hm.le; omega
  obtain ⟨b1, o1, rfl, q1, x1⟩ := slE_ptr h hm.pos
  have HX := Lib.hid x1
  clear h hl hm hW0 hys HY HE q1 x1
  go_enter Try.func11, Try.ntmps11
  go_wp2_with fail
  go_step3
  go_wp2_with fail
  rw [← HW.out]
  refine (HM.out W0 HB.out).mono ?_
  rintro e w1 ⟨rfl, g1⟩
  have G1 := Lib.hid (belowT HB.out g1)
  have M1 := Lib.hid (blk_keep g1 M0.out)
  have X1 := Lib.hid (keepR G1.out HX.out)
  obtain ⟨z0, z1, zl⟩ := tr_cells M1.out
  dsimp only at z0
  rw [sv_mk] at z0
  clear g1 z1 zl
  go_wp2_with (at_make; refine wpList_make_full _ rfl _ _ 30 rfl w1.heap.size 4 i _ 1 Try.underlying30 hi hz0 hz1 .i64 .i64 _ _ n rfl rfl rfl rfl (by rw [hz2]; have := HN.out; omega) (by unfold maxLen; have := HN.out; omega) (Nat.le_refl _) ?_; intro wz hown hgrow; have BZ : Hid (Below w1.heap.size w1 wz) := (Below.refl _ _).grown hgrow (Nat.le_refl _) (fun k hk => by cases hk); have OZ := Lib.hid (ownB_made hown); have MZ := Lib.hid (blk_keep BZ.out M1.out); have z1 := ldA_block MZ.out (tr_size _); clear hown hgrow z0)
  clear hi hz0 hz1 hz2 i
  go_step3
  go_wp2_with fail
  refine (HLv.out wz (belowT G1.out BZ.out)).mono ?_
  rintro e w2 ⟨v, rfl, hv, g2⟩
  have GG : Hid (w1.heap.size < wz.heap.size) := (ownE_lt OZ.out rfl).2
  have HV := Lib.hid hv
  have B2 := Lib.hid (belowT BZ.out g2)
  have O2 := Lib.hid (ownE_keep g2 OZ.out)
  obtain ⟨m, hmm⟩ : ∃ m, m = ys.length := ⟨_, rfl⟩
  have HMl := Lib.hid hmm
  obtain ⟨pv, cv, rfl⟩ := ownE_len hv (n := m) (by rw [List.length_map, hmm])
  clear hv g2 z1 hmm
  go_wp2_with fail
  go_loopw [23] (fun k wr => ∃ q : Nat, q ≤ m ∧ k = .int .i64 (q : Int) ∧ OwnE Eboo wr w1.heap.size (.slice (some ⟨w1.heap.size, 0, none⟩) n n) (boosT (markB l (ys.take q)) n) ∧ OwnE Eint wr wz.heap.size (.slice pv m cv) (ys.map fun k : Nat => (k : Int)) ∧ Below w1.heap.size w1 wr) (fun k _ => m - (intOf k).toNat)
  case atStart => exact ⟨0, Nat.zero_le _, rfl, by rw [List.take_zero, show markB l [] = fun _ => false from rfl, boosT_no]; exact O2.out, HV.out, B2.out⟩
  case round =>
    obtain ⟨q, hq, rfl, hown, hv, hb⟩ := hrel
    obtain ⟨wo, rfl⟩ : ∃ wo : World, wo = wr := ⟨_, rfl⟩
    have HO := Lib.hid hown
    have HVV := Lib.hid hv
    have HBB := Lib.hid hb
    clear hown hv hb
    by_cases hlt : q < m
    · have d0 : decide ((q : Int) < (m : Int)) = true := decide_eq_true (by omega)
      have d1 : decide (q < m) = true := decide_eq_true hlt
      have i0 : (0 : Int) ≤ (q : Int) := by omega
      have i1 : (q : Int) < (m : Int) := by omega
      have u1 : (q : Int) + 1 < 10000 := by have := HN.out; have := HYl.out; have := HMl.out; omega
      have HLT := Lib.hid hlt
      have hql : q < ys.length := by rw [← HMl.out]; exact hlt
      obtain ⟨b2, o2, e2, _, x2⟩ := ints_ptr (ownE_slE HVV.out) (by rw [List.length_map]; omega)
      subst e2
      have y1 := ints_at x2 (i := q) (by rw [List.length_map]; exact hql)
      obtain ⟨y, hy⟩ : ∃ y, y = ys[q] := ⟨_, rfl⟩
      have hye : (ys.map fun k : Nat => (k : Int)).getD q 0 = (y : Int) := by
        rw [List.getD_eq_getElem?_getD, List.getElem?_eq_getElem (by rw [List.length_map]; exact hql), List.getElem_map, hy]; rfl
      rw [hye] at y1
      have HYn : Hid (y < l.length) := HYb.out y (by rw [hy]; exact List.getElem_mem _)
      have HTk : Hid (ys.take (q + 1) = ys.take q ++ [y]) := by show _ = _; rw [hy]; exact List.take_succ_eq_append_getElem hql
      have HYt : Hid (∀ z ∈ ys.take q, z < l.length) := fun z hz => HYb.out z (List.mem_of_mem_take hz)
      clear hlt hql x2 hy hye
      go_wp2_with fail
      go_loopw [10] (fun c wr => ∃ (S : List Bool) (x : Int), c = .int .i64 x ∧ (x = -1 ∨ ∃ a : Nat, x = (a : Int) ∧ a < n ∧ aboveT l a y = true) ∧ S = boosT (wayB l (ys.take q) y x) n ∧ OwnE Eboo wr w1.heap.size (.slice (some ⟨w1.heap.size, 0, none⟩) n n) S ∧ OwnE Eint wr wz.heap.size (.slice (some ⟨b2, o2, none⟩) m cv) (ys.map fun k : Nat => (k : Int)) ∧ Below w1.heap.size w1 wr) (fun c _ => (intOf c + 1).toNat)
      case atStart => exact ⟨_, (y : Int), rfl, .inr ⟨y, rfl, by have := HYn.out; have := HL.out; omega, above_refl HMm.out HYn.out⟩, (boosT_ext fun i _ => (way_begin l _ y i).symm), HO.out, HVV.out, HBB.out⟩
      case round =>
        obtain ⟨S, x, rfl, hx, hS, hown, hv, hb⟩ := hrel
        have KO := Lib.hid hown
        have KV := Lib.hid hv
        have KB := Lib.hid hb
        have KS := Lib.hid hS
        have KL : Hid (S.length = n) := by show _ = _; rw [hS, boosT_len]
        clear hown hv hb hS y1
        rcases hx with rfl | ⟨a, rfl, ha, hay⟩
        · have HEn : Hid (S = boosT (markB l (ys.take (q + 1))) n) := by show _ = _; rw [KS.out, HTk.out]; exact boosT_ext fun i _ => way_end l _ y i
          go_wp2_with fail
          go_roundw
          case rel => exact ⟨q + 1, HLT.out, by go_num, by rw [← HEn.out]; exact KO.out, KV.out, KB.out⟩
          case measure => simp [intOf]; have := HLT.out; omega
        · have t1 : ((a : Int) != -1) = true := by simp
          have j0 : (0 : Int) ≤ (a : Int) := by omega
          have j1 : (a : Int) < (n : Int) := by omega
          have c1 := ownB_cell KO.out (k := a) (by rw [KL.out]; exact ha)
          have c2 := ownB_frozen KO.out KL.out a
          obtain ⟨t, ht⟩ : ∃ t, t = bn S a := ⟨_, rfl⟩
          rw [← ht] at c1
          have HAn : Hid (a < l.length) := by show _ < _; rw [HL.out]; exact ha
          have htm : t = markB l (ys.take q) a := by rw [ht, KS.out, boosT_at ha, way_is HMm.out HAn.out]
          have HT := Lib.hid htm
          have HAy := Lib.hid hay
          have HA2 := Lib.hid ha
          clear ht htm hay ha
          cases t
          · have z0 := (tr_cells (blk_keep KB.out M1.out)).1
            dsimp only at z0
            rw [sv_mk] at z0
            have y2 := nds_par (keepR KB.out X1.out) (i := a) HAn.out
            have lb : b1 < w1.heap.size := by
              have h1 := (Array.getElem?_eq_some_iff.1 M1.out).1
              have := G1.out.size
              have := HB.out.size
              exact Nat.lt_of_lt_of_le (World.block_lt_of_cell? w ⟨b1, o1 + a * 35 + 32, none⟩ (nds_par HX.out (i := a) HAn.out)) G1.out.size
            have l1 : w.heap.size < w1.heap.size := (Array.getElem?_eq_some_iff.1 M1.out).1
            have HP := Lib.hid (ownB_put KO.out KL.out a true)
            have HQ := Lib.hid (ownE_set (o := a) KV.out GG.out (.bool true))
            have HC := Lib.hid (KB.out.setCell (p := ⟨w1.heap.size, a, none⟩) (Nat.le_refl _) (.bool true))
            have HNx : Hid ((nd l a).parent = -1 ∨ ∃ b : Nat, (nd l a).parent = (b : Int) ∧ b < a ∧ aboveT l b y = true) := way_next HMm.out HAn.out HYn.out HAy.out
            have HSt : Hid (S.set a true = boosT (wayB l (ys.take q) y (nd l a).parent) n) := by show _ = _; rw [KS.out]; exact set_boosT fun i _ => way_step HMm.out HAn.out HAy.out
            obtain ⟨pa, hpa⟩ : ∃ pa, pa = (nd l a).parent := ⟨_, rfl⟩
            rw [← hpa] at y2 HNx HSt
            clear hpa
            go_wp2_with fail
            go_roundw
            case rel => exact ⟨_, pa, rfl, HNx.out.imp id (fun ⟨b, e, hb, hb2⟩ => ⟨b, e, by have := HA2.out; omega, hb2⟩), HSt.out, HP.out, HQ.out, HC.out⟩
            case measure => simp only [intOf]; rcases HNx.out with e | ⟨b, e, hb, _⟩ <;> (rw [e]; omega)
          · have HEn : Hid (S = boosT (markB l (ys.take (q + 1))) n) := by show _ = _; rw [KS.out, HTk.out]; exact boosT_ext fun i _ => way_stop HMm.out HYt.out HYn.out HAy.out HT.out.symm i
            go_wp2_with fail
            go_roundw
            case rel => exact ⟨q + 1, HLT.out, by go_num, by rw [← HEn.out]; exact KO.out, KV.out, KB.out⟩
            case measure => simp [intOf]; have := HLT.out; omega
    · obtain rfl : q = m := by omega
      have d0 : decide ((q : Int) < (q : Int)) = false := decide_eq_false (Int.lt_irrefl _)
      have HEn : Hid (ys.take q = ys) := by show _ = _; rw [HMl.out, List.take_length]
      rw [HEn.out] at HO
      clear hlt
      go_wp2_with fail
      (try rw [Exit.noGoto_ret])
      go_ret
      exact ⟨_, rfl, ownE_base HO.out G1.out.size, belowT G1.out HBB.out⟩
theorem leadsC : LeadsC := by
  intro s l j f w _ h
  have hl := sv_lenN h
  obtain ⟨p, n, cp⟩ := s
  dsimp only at hl
  by_cases hm : MayT l
  · rw [leads_yes hm, hl]
    exact (leads_near p n cp l j f w h hl hm).mono fun _ _ h => h.list
  · rw [leads_no hm]
    exact (leads_far p n cp l j f w h hm).mono fun _ _ h => ⟨_, h.1, slE_nil _ _ _ _, h.2⟩
end Go.Proofs.Ytanoijcgkacnmaa
