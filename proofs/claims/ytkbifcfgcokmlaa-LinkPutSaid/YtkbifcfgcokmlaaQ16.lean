/-
  The document's links: Put, walked. (written by wip/gen/ref15.py)
-/
import Derived.Test.YtkbifcfgcokmlaaQ14
import Derived.Test.YtkbifcfgcokmlaaQ15
import Derived.OwnWalk
import Derived.Maps.AppendAt
namespace Go.Proofs.Ytkbifcfgcokmlaa
open Go.RowKit
set_option maxRecDepth 100000

set_option maxRecDepth 100000 in
set_option maxHeartbeats 8000000 in
theorem ref15Put_n (p : Option Addr) (n cp : Nat) (l : List Lk) (s t : Ck) (v : Int) (w : World) (h : SlE Elk w (.slice p n cp) l) (hl : l.length = n) (hn : n ≤ 1000) :
    Calls Try.prog 11 #[.slice p n cp, .agg (cc s), .agg (cc t), .int .i64 v] w (LksEr (putK l s t v) (errK l s t v) w) := by
  have HL := Lib.hid hl
  obtain ⟨W0, hW0⟩ : ∃ W0, W0 = (w.alloc (.cells (cc s) 27)).alloc (.cells (cc t) 27) := ⟨_, rfl⟩
  obtain ⟨hB, m0, m1⟩ := ck_two w s t W0 hW0
  have HW := Lib.hid hW0
  have HMy := Lib.hid (ref15May_n p n cp l W0 (slE_keep hB h) hl hn)
  have HBt := Lib.hid (fun W => ref11Bit v W)
  obtain ⟨b, hb⟩ : ∃ b, b = mayL l := ⟨_, rfl⟩
  rw [← hb] at HMy
  have HBb := Lib.hid hb
  have HB := Lib.hid hB
  have M0 := Lib.hid m0
  have M1 := Lib.hid m1
  have HS := Lib.hid (slE_keep hB h)
  obtain ⟨S, hS⟩ : ∃ S, S = s.epoch.toNat := ⟨_, rfl⟩
  obtain ⟨T, hT⟩ : ∃ T, T = t.epoch.toNat := ⟨_, rfl⟩
  have HSe := Lib.hid hS
  have HTe := Lib.hid hT
  clear h hl hW0 hB m0 m1 hb hS hT hn
  go_enter Try.func11, Try.ntmps11
  go_wp2_with fail
  rw [← HW.out]
  refine HMy.out.mono ?_
  rintro e w1 ⟨rfl, g1⟩
  replace HB := Lib.hid (belowT HB.out g1)
  replace HS := Lib.hid (slE_keep g1 HS.out)
  replace M0 := Lib.hid (blk_keep g1 M0.out)
  replace M1 := Lib.hid (blk_keep g1 M1.out)
  clear g1
  have y1 := (ck_v M0.out).e
  have y2 := (ck_v M1.out).e
  rw [← HSe.out] at y1
  rw [← HTe.out] at y2
  cases b
  · have HF : Hid (errK l s t v = 1) := err_may HBb.out.symm
    have HP : Hid (putK l s t v = l) := put_err (by rw [HF.out]; decide)
    go_wp2_with fail
    go_ret2
    exact ⟨_, by rw [HF.out]; first | done | rfl, by rw [HP.out]; exact HS.out, HB.out⟩
  · by_cases h1 : v < 0
    · have t1 : decide (v < 0) = true := decide_eq_true h1
      have HF : Hid (errK l s t v = 10) := err_val HBb.out.symm (by omega)
      have HP : Hid (putK l s t v = l) := put_err (by rw [HF.out]; decide)
      clear h1
      go_wp2_with fail
      go_ret2
      exact ⟨_, by rw [HF.out]; first | done | rfl, by rw [HP.out]; exact HS.out, HB.out⟩
    have t1 : decide (v < 0) = false := decide_eq_false h1
    by_cases h2 : 8 ≤ v
    · have t2 : decide (8 ≤ v) = true := decide_eq_true h2
      have HF : Hid (errK l s t v = 10) := err_val HBb.out.symm (by omega)
      have HP : Hid (putK l s t v = l) := put_err (by rw [HF.out]; decide)
      clear h1 h2
      go_wp2_with fail
      go_ret2
      exact ⟨_, by rw [HF.out]; first | done | rfl, by rw [HP.out]; exact HS.out, HB.out⟩
    have t2 : decide (8 ≤ v) = false := decide_eq_false h2
    have hv : 0 ≤ v ∧ v < 8 := by omega
    by_cases h3 : T ≤ S
    · have t3 : decide ((T : Int) ≤ (S : Int)) = true := decide_eq_true (by omega)
      have t3' : decide (T ≤ S) = true := decide_eq_true h3
      have HF : Hid (errK l s t v = 9) := err_link HBb.out.symm hv (by rw [← HSe.out, ← HTe.out]; omega)
      have HP : Hid (putK l s t v = l) := put_err (by rw [HF.out]; decide)
      clear h1 h2 h3 hv
      go_wp2_with fail
      go_ret2
      exact ⟨_, by rw [HF.out]; first | done | rfl, by rw [HP.out]; exact HS.out, HB.out⟩
    have t3 : decide ((T : Int) ≤ (S : Int)) = false := decide_eq_false (by omega)
    have t3' : decide (T ≤ S) = false := decide_eq_false h3
    have he : s.epoch.toNat < t.epoch.toNat := by rw [← HSe.out, ← HTe.out]; omega
    have HN16 : Hid (n ≤ 16) := by show n ≤ 16; have := (mayL_iff.1 HBb.out.symm).2; rw [HL.out] at this; exact this
    have HThere : Hid (atK l s t < l.length → errK l s t v = 0) := fun ha => err_there HBb.out.symm hv he ha
    have HFull : Hid (¬ atK l s t < l.length → l.length = 16 → errK l s t v = 3) := fun ha hq => err_full HBb.out.symm hv he ha hq
    have HNew : Hid (¬ atK l s t < l.length → ¬ l.length = 16 → errK l s t v = 0) := fun ha hq => err_new HBb.out.symm hv he ha hq
    have HBt2 : Hid (∀ W, Calls Try.prog 27 #[.int .i64 v] W fun e w' => e = .returned (.int .u64 ((bitK v).toNat : Int)) ∧ Below W.heap.size W w') := fun W => by rw [bitK_nat]; exact HBt.out W
    have HD : Hid (∀ W, Below w1.heap.size w1 W → ldA W (.pointer (some ⟨w.heap.size, 0, none⟩)) 33 = some (cc s) ∧ ldA W (.pointer (some ⟨w.heap.size + 1, 0, none⟩)) 33 = some (cc t)) := fun W g => ⟨(ck_v (blk_keep g M0.out)).a, (ck_v (blk_keep g M1.out)).a⟩
    clear h1 h2 h3 he hv
    go_wp2_with (at_builtin; refine wpList_append_E Klk _ rfl (.const (.slice none 0 0)) (.tmp 32) rfl w1.heap.size _ [] rfl (ownE_nil _ _ _) _ l rfl HS.out (by have := HL.out; have := HN16.out; simp; omega) (Nat.le_refl _) ?_; intro v2 w2 ho2 hg2; obtain ⟨p2, c2, hv2⟩ := ownE_len ho2 (n := n) (by rw [List.nil_append]; exact HL.out); rw [hv2] at ho2 hg2 ⊢; clear hv2)
    have O2 : Hid (OwnE Elk w2 w1.heap.size (.slice p2 n c2) l) := ho2
    have G2 : Hid (Below w1.heap.size w1 w2) := hg2.nil
    clear ho2 hg2 y1 y2 t1 t2 t3 t3'
    refine (HBt2.out w2).mono ?_
    rintro e w3 ⟨rfl, g3⟩
    replace O2 := Lib.hid (ownE_keep g3 O2.out)
    have G3 : Hid (Below w1.heap.size w1 w3) := belowT G2.out g3
    clear g3
    go_wp2_with fail
    go_loopw [13] (fun i wr => ∃ j : Nat, j ≤ n ∧ i = .int .i64 (j : Int) ∧ (∀ x, x < j → isK s t (lkAt l x) = false) ∧ Below w3.heap.size w3 wr) (fun i _ => n - (intOf i).toNat)
    case atStart => exact ⟨0, Nat.zero_le _, rfl, fun x hx => absurd hx (Nat.not_lt_zero _), Below.refl _ _⟩
    case round =>
      obtain ⟨j, hj, rfl, hx, hg⟩ := hrel
      have HX := Lib.hid hx
      have HG := Lib.hid hg
      have O3 := Lib.hid (ownE_keep hg O2.out)
      have G4 : Hid (Below w1.heap.size w1 wr) := belowT G3.out hg
      clear hx hg
      by_cases hlt : j < n
      · have i0 : (0 : Int) ≤ (j : Int) := by omega
        have i1 : (j : Int) < (n : Int) := by omega
        have u1 : (j : Int) + 1 < 10000 := by have := HN16.out; omega
        have d0 : decide ((j : Int) < (n : Int)) = true := decide_eq_true i1
        have d0' : decide (j < n) = true := decide_eq_true hlt
        have HLT := Lib.hid hlt
        obtain ⟨g, c3, e3, hgb⟩ := ownK_form O3.out HL.out (by omega)
        injection e3 with e3 _ e4
        subst e3 e4
        have x1 := ownK_rg O3.out HL.out (by omega)
        have X1 := Lib.hid x1
        have HGb := Lib.hid hgb
        have y1 := lks_s x1 (i := j) (by have := HL.out; omega)
        have y2 := lks_t x1 (i := j) (by have := HL.out; omega)
        rw [Nat.zero_add] at y1 y2
        obtain ⟨c1, c2'⟩ := HD.out wr G4.out
        have HK : Hid (isK s t (lkAt l j) = (decide ((lkAt l j).s = s) && decide ((lkAt l j).t = t))) := by show _ = _; unfold isK; rw [Bool.eq_iff_iff]; simp
        have HAt : Hid (isK s t (lkAt l j) = true → atK l s t = j) := fun e => atk_spec (by rw [HL.out]; exact HLT.out) e HX.out
        obtain ⟨K, hK⟩ : ∃ K, K = isK s t (lkAt l j) := ⟨_, rfl⟩
        rw [← hK] at HK HAt
        have HKe := Lib.hid hK
        obtain ⟨E1, hE1⟩ : ∃ E, E = decide ((lkAt l j).s = s) := ⟨_, rfl⟩
        obtain ⟨E2, hE2⟩ : ∃ E, E = decide ((lkAt l j).t = t) := ⟨_, rfl⟩
        rw [← hE1, ← hE2] at HK
        have t1 := hE1.symm
        have t2 := hE2.symm
        generalize hA1 : (lkAt l j).s = A1 at y1 t1
        generalize hA2 : (lkAt l j).t = A2 at y2 t2
        clear hlt x1 hgb hK hE1 hE2 hA1 hA2
        cases E1
        · have hk : Hid (K = false) := HK.out
          go_wp2_with fail
          go_quiet (fail)
          go_wp2_with fail
          go_roundw
          case rel => exact ⟨j + 1, HLT.out, by go_num, (fun x hx => by
            rcases Nat.lt_succ_iff_lt_or_eq.1 hx with h | rfl
            · exact HX.out x h
            · rw [← HKe.out]; exact hk.out), belowD HG.out _⟩
          case measure => simp [intOf]; have := HLT.out; omega
        · cases E2
          · have hk : Hid (K = false) := HK.out
            go_wp2_with fail
            go_quiet (fail)
            go_wp2_with fail
            go_roundw
            case rel => exact ⟨j + 1, HLT.out, by go_num, (fun x hx => by
              rcases Nat.lt_succ_iff_lt_or_eq.1 hx with h | rfl
              · exact HX.out x h
              · rw [← HKe.out]; exact hk.out), belowD HG.out _⟩
            case measure => simp [intOf]; have := HLT.out; omega
          · have ha : atK l s t = j := HAt.out HK.out
            have hin : atK l s t < l.length := by rw [ha, HL.out]; exact HLT.out
            have HF : Hid (errK l s t v = 0) := HThere.out hin
            have HP : Hid (putK l s t v = l.set j { lkAt l j with mask := (lkAt l j).mask ||| bitK v }) := by show _ = _; rw [put_there HF.out hin, ha]
            have y3 := lks_mask X1.out (i := j) (by have := HL.out; have := HLT.out; omega)
            rw [Nat.zero_add] at y3
            have f3 := ownK_frozen O3.out HL.out (j * 67 + 66)
            have a1 := k_or (lkAt l j).mask (bitK v)
            obtain ⟨Y, hY⟩ : ∃ Y, Y = (lkAt l j).mask ||| bitK v := ⟨_, rfl⟩
            rw [← hY] at HP a1
            generalize hM : (lkAt l j).mask = M at y3 a1
            have y3' : ∀ k, (wr.drewN k).cell? ⟨g, j * 67 + 66, none⟩ = some (.int .u64 (M.toNat : Int)) := fun k => y3
            have f3' : ∀ k, (wr.drewN k).frozen? ⟨g, j * 67 + 66, none⟩ = false := fun k => f3
            clear ha hin hY hM
            go_wp2_with fail
            go_quiet (fail)
            go_wp2_with fail
            go_ret2
            refine ⟨_, by rw [HF.out]; first | done | rfl, ?_, ?_⟩
            · rw [HP.out]
              exact ownE_slE (ownK_put (ownE_keep (belowD (Below.refl _ _) _) O3.out) HL.out HLT.out Y)
            · exact belowT HB.out ((belowD G4.out _).setCell (p := ⟨g, j * 67 + 66, none⟩) HGb.out _)
      · obtain rfl : j = n := by omega
        have d0 : decide ((j : Int) < (j : Int)) = false := decide_eq_false (Int.lt_irrefl _)
        have d0' : decide (j < j) = false := decide_eq_false (Nat.lt_irrefl _)
        have hna : ¬ atK l s t < l.length := by rw [at_none (fun k hk => HX.out k (by rw [← HL.out]; exact hk))]; exact Nat.lt_irrefl _
        clear hlt
        by_cases h6 : j = 16
        · have HF : Hid (errK l s t v = 3) := HFull.out hna (by rw [HL.out]; exact h6)
          have HP : Hid (putK l s t v = l) := put_err (by rw [HF.out]; decide)
          have S4 := Lib.hid (slE_keep G4.out HS.out)
          have e6 : ((j : Int) == 16) = true := by rw [beq_iff_eq]; omega
          clear hna h6
          go_wp2_with fail
          go_ret2
          exact ⟨_, by rw [HF.out]; first | done | rfl, by rw [HP.out]; exact S4.out, belowT HB.out G4.out⟩
        · have HF : Hid (errK l s t v = 0) := HNew.out hna (by rw [HL.out]; exact h6)
          have HP : Hid (putK l s t v = l ++ [⟨s, t, bitK v⟩]) := put_new HF.out hna
          have e6 : ((j : Int) == 16) = false := by rw [beq_eq_false_iff_ne]; omega
          obtain ⟨c1, c2'⟩ := HD.out wr G4.out
          have ZB : Hid (w1.heap.size ≤ wr.heap.size) := G4.out.size
          clear hna h6
          go_wp2_with (at_builtin; refine wpList_append_E Klk _ rfl (.tmp 74) (.tmp 79) rfl w1.heap.size _ l rfl (ownE_alloc O3.out _) _ [(⟨s, t, bitK v⟩ : Lk)] rfl (lk_lit1 _ _ _ rfl) (by have := HL.out; have := HN16.out; simp; omega) (by have := ZB.out; simp; omega) ?_; intro v5 w5 ho5 hg5)
          go_ret2
          exact ⟨_, by rw [HF.out]; first | done | rfl, by rw [HP.out]; exact ownE_slE ho5, belowT HB.out (G4.out.trans ((Gr.alloc hg5).own O3.out ZB.out))⟩
theorem ref15Put (u : Value) (l : List Lk) (s t : Ck) (v : Int) (w : World) (h : SlE Elk w u l) (hn : l.length ≤ 1000) :
    Calls Try.prog 11 #[u, .agg (cc s), .agg (cc t), .int .i64 v] w (LksEr (putK l s t v) (errK l s t v) w) := by
  have k := h
  obtain ⟨p, cp, rfl, _⟩ := slE_shape h
  exact ref15Put_n p _ cp l s t v w k rfl hn
theorem enters_ref15Put : ∀ args w, (callFunc 11 args).run Try.prog w = .ok (.enter 11 args) w := entersE Try.func11 (by kernel_rfl) (by kernel_rfl)
end Go.Proofs.Ytkbifcfgcokmlaa
