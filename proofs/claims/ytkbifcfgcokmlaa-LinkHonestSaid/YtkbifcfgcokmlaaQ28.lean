/-
  A list of links: slices.Clone, walked.
  What is asked of stake.Bit.
  Package stake: Bit, walked.
  Package link: Put, walked.
-/
import Derived.Test.YtkbifcfgcokmlaaQ13
import Derived.Test.YtkbifcfgcokmlaaQ21
import Derived.Laws.Cover3
import Derived.Test.YtkbifcfgcokmlaaQ10
import Derived.Test.YtkbifcfgcokmlaaQ05
import Derived.Laws.ShiftsVarLaws
import Derived.Test.YtkbifcfgcokmlaaQ27
namespace Go.Proofs.Ytkbifcfgcokmlaa
open Go.RowKit
set_option maxRecDepth 100000

theorem eq_nilLk (p : Option Addr) (n cap : Nat) (w : World) : (binOp .eql 22 (.slice p n cap) (.slice none 0 0)).run Try.prog w = .ok (.bool p.isNone) w := by
  have h := run_equalIn_slice_nil (P := Try.prog) w 9999 22 36 p n cap Try.underlying22
  simp [binOp, Op.equal, Op.maxDepth, h]
theorem KlkB : KnownB Try.prog Elk 22 88 := ⟨Try.underlying22, .agg (lk zlk), info_lk, by show ((lk zlk)).size = _; exact lk_size _⟩
def SlIsK (l : List Lk) (w : World) (e : Ending) (w' : World) : Prop := ∃ v, e = .returned v ∧ OwnE Elk w' w.heap.size v l ∧ Below w.heap.size w w'

set_option maxRecDepth 100000 in
set_option maxHeartbeats 1000000 in
theorem cloneLk_n (p : Option Addr) (n cap : Nat) (l : List Lk) (w : World) (h : SlE Elk w (.slice p n cap) l) (hl : l.length = n) (hn : n * 88 ≤ 140737488355328) :
    Calls Try.prog 24 #[.slice p n cap] w (SlIsK l w) := by
  have HS := Lib.hid h
  have HL := Lib.hid hl
  have HN := Lib.hid hn
  cases p with
  | none =>
    have hn0 : l = [] := by
      obtain ⟨p, cap', e, _, h⟩ := h
      injection e with e
      subst e
      exact h.resolve_right (fun ⟨_, _, e, _⟩ => by cases e)
    have e : n = 0 := by rw [← hl, hn0]; rfl
    subst hn0 e
    clear HS h hl hn
    have he : ∀ w, (binOp .eql 22 (.slice none 0 cap) (.slice none 0 0)).run Try.prog w = .ok (.bool true) w := fun w => eq_nilLk none 0 cap w
    go_enter Try.func24, Try.ntmps24
    go_wp2_with fail
    go_ret
    exact ⟨_, rfl, ownE_nil _ _ _, Below.refl _ _⟩
  | some a =>
    have HO : Hid (OwnE Elk (w.alloc (.cells #[] 36)) w.heap.size (.slice (some ⟨w.heap.size, 0, none⟩) 0 0) []) := ownE_lit (E := Elk) w [] 0 rfl (by simp [maxLen]) #[] rfl _ rfl
    have HB : Hid (Below w.heap.size w (w.alloc (.cells #[] 36))) := below1
    clear h hl hn
    have he : ∀ w, (binOp .eql 22 (.slice (some a) n cap) (.slice none 0 0)).run Try.prog w = .ok (.bool false) w := fun w => eq_nilLk (some a) n cap w
    go_enter Try.func24, Try.ntmps24
    go_wp2_with (at_builtin; refine wpList_append_B KlkB _ rfl (.tmp 5) (.tmp 6) rfl w.heap.size _ [] rfl HO.out _ l rfl (slE_keep HB.out HS.out) (by have := HL.out; have := HN.out; simp [maxLen]; omega) (by have := HL.out; have := HN.out; simp; omega) (by simp) ?_; intro v2 w2 ho2 hg2)
    go_ret
    exact ⟨_, rfl, by simpa using ho2, HB.out.trans (hg2.own HO.out (by simp))⟩
theorem cloneLk (v : Value) (l : List Lk) (w : World) (h : SlE Elk w v l) (hn : l.length * 88 ≤ 140737488355328) :
    Calls Try.prog 24 #[v] w (SlIsK l w) := by
  have k := h
  obtain ⟨p, cl, rfl, _⟩ := slE_shape h
  exact cloneLk_n p _ cl l w k rfl hn
theorem enters_cloneLk : ∀ args w, (callFunc 24 args).run Try.prog w = .ok (.enter 24 args) w := entersE Try.func24 (by kernel_rfl) (by kernel_rfl)
end Go.Proofs.Ytkbifcfgcokmlaa
namespace Go.Proofs.Ytkbifcfgcokmlaa
open Go.RowKit
set_option maxRecDepth 100000

def StBitC : Prop := ∀ (v : Int) (w : World), Calls Try.prog 22 #[.int .i64 v] w fun e w' => e = .returned (.int .u64 (bitN v : Int)) ∧ Below w.heap.size w w'
end Go.Proofs.Ytkbifcfgcokmlaa
namespace Go.Proofs.Ytkbifcfgcokmlaa
open Go.RowKit
set_option maxRecDepth 100000

set_option maxRecDepth 100000 in
set_option maxHeartbeats 1000000 in
theorem stakeBit : StBitC := fun v w => by
  by_cases h0 : v < 0
  · have t0 : decide (v < 0) = true := decide_eq_true h0
    rw [show bitN v = 0 from if_neg (by omega)]
    clear h0
    go_enter Try.func22, Try.ntmps22
    go_wp2_with fail
    go_ret
    exact ⟨rfl, Below.refl _ _⟩
  · have t0 : decide (v < 0) = false := decide_eq_false h0
    by_cases h1 : 64 ≤ v
    · have t1 : decide (64 ≤ v) = true := decide_eq_true h1
      rw [show bitN v = 0 from if_neg (by omega)]
      clear h0 h1
      go_enter Try.func22, Try.ntmps22
      go_wp2_with fail
      go_ret
      exact ⟨rfl, Below.refl _ _⟩
    · have t1 : decide (64 ≤ v) = false := decide_eq_false h1
      obtain ⟨n, rfl⟩ : ∃ n : Nat, v = n := ⟨v.toNat, by omega⟩
      have hn : n < 64 := by omega
      rw [bitN_nat hn]
      have HX : Hid (IntKind.u64.wrap (1 * 2 ^ min ((n : Int)).toNat 64) = ((2 ^ n : Nat) : Int)) := by
        show _ = _
        have e : min ((n : Int)).toNat 64 = n := by omega
        have : 2 ^ n ≤ 2 ^ 63 := Nat.pow_le_pow_right (by omega) (by omega)
        rw [e, Int.one_mul, show ((2 : Int) ^ n) = ((2 ^ n : Nat) : Int) by simp, IntKind.wrap_u64]
        generalize 2 ^ n = x at *
        omega
      have h2 : (0 : Int) ≤ (n : Int) := by omega
      clear h0 h1 hn
      go_enter Try.func22, Try.ntmps22
      go_wp2_with fail
      go_ret
      exact ⟨by have := HX.out; simpa using this, Below.refl _ _⟩
theorem enters_stakeBit : ∀ args w, (callFunc 22 args).run Try.prog w = .ok (.enter 22 args) w := entersE Try.func22 (by kernel_rfl) (by kernel_rfl)
end Go.Proofs.Ytkbifcfgcokmlaa
namespace Go.Proofs.Ytkbifcfgcokmlaa
open Go.RowKit Go.Maps
set_option maxRecDepth 100000

theorem stakeBitK (v : Int) (w : World) : Calls Try.prog 22 #[.int .i64 v] w fun e w' => e = .returned (.int .u64 ((bitK v).toNat : Int)) ∧ Below w.heap.size w w' := by
  rw [bitK_nat]; exact stakeBit v w

set_option maxRecDepth 100000 in
set_option maxHeartbeats 16000000 in
theorem progLinkPut_n (p : Option Addr) (n cp : Nat) (l : List Lk) (s t : Ck) (v : Int) (w : World) (h : SlE Elk w (.slice p n cp) l) (hl : l.length = n) (hn : n ≤ 1000) :
    Calls Try.prog 10 #[.slice p n cp, .agg (cc s), .agg (cc t), .int .i64 v] w (LksEr (putK l s t v) (errK l s t v) w) := by
  obtain ⟨W0, hW0⟩ : ∃ W0, W0 = (w.alloc (.cells (cc s) 27)).alloc (.cells (cc t) 27) := ⟨_, rfl⟩
  obtain ⟨hB, m0, m1, hz⟩ := heap2 w _ _ _ _ W0 hW0
  have HB := Lib.hid hB
  have HW := Lib.hid hW0
  have HZ := Lib.hid hz
  have HS := Lib.hid (slE_keep hB h)
  have HL := Lib.hid hl
  have HN := Lib.hid hn
  have M0 := Lib.hid m0
  have M1 := Lib.hid m1
  have HCl := Lib.hid (cloneLk (.slice p n cp) l W0 (slE_keep hB h) (by omega))
  have HMy := Lib.hid (fun W (g : Below W0.heap.size W0 W) => linkMay (.slice p n cp) l W (slE_keep g (slE_keep hB h)))
  obtain ⟨b, hb⟩ : ∃ b, b = mayL l := ⟨_, rfl⟩
  rw [← hb] at HMy
  have HBb := Lib.hid hb
  have HF3 := Lib.hid (fun W => linkForth s t W)
  obtain ⟨F, hF⟩ : ∃ F, F = decide (s.epoch.toNat < t.epoch.toNat) := ⟨_, rfl⟩
  rw [← hF] at HF3
  have HFe := Lib.hid hF
  clear h hl hn hW0 hB m0 m1 hz hb hF
  go_enter Try.func10, Try.ntmps10
  go_upto_region 1 with fail
  rw [← HW.out]
  go_wp2_with fail
  refine HCl.out.mono ?_
  rintro e w1 ⟨o0, rfl, ho, g⟩
  have O := Lib.hid ho
  have G := Lib.hid g
  clear ho g
  go_wp2_with fail
  refine (HMy.out w1 G.out).mono ?_
  rintro e w2 ⟨rfl, g⟩
  replace O := Lib.hid (ownE_keep g O.out)
  replace G := Lib.hid (belowT G.out g)
  clear g
  cases b
  · have HF : Hid (errK l s t v = 1) := err_may HBb.out.symm
    have HP : Hid (putK l s t v = l) := put_err (by rw [HF.out]; decide)
    go_wp2_with fail
    go_ret2
    exact ⟨_, by rw [HF.out]; first | done | rfl, by rw [HP.out]; exact ownE_slE O.out, belowT HB.out G.out⟩
  · by_cases h1 : v < 0
    · have t1 : decide (v < 0) = true := decide_eq_true h1
      have HF : Hid (errK l s t v = 10) := err_val HBb.out.symm (by omega)
      have HP : Hid (putK l s t v = l) := put_err (by rw [HF.out]; decide)
      clear h1
      go_wp2_with fail
      go_ret2
      exact ⟨_, by rw [HF.out]; first | done | rfl, by rw [HP.out]; exact ownE_slE O.out, belowT HB.out G.out⟩
    have t1 : decide (v < 0) = false := decide_eq_false h1
    by_cases h2 : 8 ≤ v
    · have t2 : decide (8 ≤ v) = true := decide_eq_true h2
      have HF : Hid (errK l s t v = 10) := err_val HBb.out.symm (by omega)
      have HP : Hid (putK l s t v = l) := put_err (by rw [HF.out]; decide)
      clear h1 h2
      go_wp2_with fail
      go_ret2
      exact ⟨_, by rw [HF.out]; first | done | rfl, by rw [HP.out]; exact ownE_slE O.out, belowT HB.out G.out⟩
    have t2 : decide (8 ≤ v) = false := decide_eq_false h2
    have hv : 0 ≤ v ∧ v < 8 := by omega
    have HV := Lib.hid hv
    clear h1 h2 hv
    have y1 := (ck_v (blk_keep G.out M0.out)).a
    have y2 := (ck_v (blk_keep G.out M1.out)).a
    go_wp2_with fail
    refine (HF3.out w2).mono ?_
    rintro e w3 ⟨rfl, g⟩
    replace O := Lib.hid (ownE_keep g O.out)
    replace G := Lib.hid (belowT G.out g)
    clear g y1 y2 t1 t2
    cases F
    · have HF : Hid (errK l s t v = 9) := err_link HBb.out.symm HV.out (of_decide_eq_false HFe.out.symm)
      have HP : Hid (putK l s t v = l) := put_err (by rw [HF.out]; decide)
      go_wp2_with fail
      go_ret2
      exact ⟨_, by rw [HF.out]; first | done | rfl, by rw [HP.out]; exact ownE_slE O.out, belowT HB.out G.out⟩
    have he : s.epoch.toNat < t.epoch.toNat := of_decide_eq_true HFe.out.symm
    have HThere : Hid (atK l s t < l.length → errK l s t v = 0) := fun ha => err_there HBb.out.symm HV.out he ha
    have HFull : Hid (¬ atK l s t < l.length → l.length = 16 → errK l s t v = 3) := fun ha hq => err_full HBb.out.symm HV.out he ha hq
    have HNew : Hid (¬ atK l s t < l.length → ¬ l.length = 16 → errK l s t v = 0) := fun ha hq => err_new HBb.out.symm HV.out he ha hq
    clear he HMy HCl HF3
    go_wp2_with fail
    have La := fun q : Wd w3.drew => wd_ld (ck_v (blk_keep G.out M0.out)).a (by decide) q
    have Lb := fun q : Wd w3.drew => wd_ld (ck_v (blk_keep G.out M1.out)).a (by decide) q
    have HLK := Lib.hid (pcD_look l s t)
    rw [HL.out] at HLK
    obtain ⟨a, ha⟩ : ∃ a, a = atK l s t := ⟨_, rfl⟩
    have HA := Lib.hid ha
    obtain ⟨q, hq⟩ : ∃ q, q = decide (atK l s t < n) := ⟨_, rfl⟩
    rw [← hq] at HLK
    have HQ := Lib.hid hq
    obtain ⟨c, hc⟩ : ∃ c, c = whereK l s t := ⟨_, rfl⟩
    rw [← hc] at HLK
    have HC := Lib.hid hc
    clear ha hq hc
    refine wp_region_lex [1] (by kernel_rfl) (by kernel_rfl) (by kernel_rfl) ?_
    repeat (refine wpXL_quiet rfl rfl _ cls_begin ?_; (first | go_big_quiet_step (fail) | quiet_step (fail)); refine wpQuiet_nil ?_)
    refine wpXL_call rfl rfl rfl enters_linkPlaces #[.slice p n cp] rfl ?_
    refine (progLinkPlaces_n p n cp l _ (slE_keep (belowT G.out (belowD (Below.refl _ _) 1)) HS.out) HL.out HN.out).mono ?_
    rintro e u ⟨bm, rfl, ho, g⟩
    refine ⟨_, rfl, g, ?_⟩
    simp only [Act.put, List.setIfInBounds_toArray, List.set_cons_zero, List.set_cons_succ]
    have Lc := fun q : Wd u => look_at (ownsMap_keep q.h ho) HLK.out.2
    rw [HLK.out.1] at Lc
    have g0 : Below w3.heap.size w3 u := belowT (belowD (Below.refl _ _) 1) g
    replace O := Lib.hid (ownE_keep g0 O.out)
    replace G := Lib.hid (belowT G.out g0)
    clear g g0 ho
    refine wpXL_quiet rfl rfl _ cls_begin ?_
    (first | go_big_quiet_step (fail) | quiet_step (fail))
    refine wpQuiet_nil ?_
    refine wpXL_quiet rfl rfl _ cls_begin ?_
    (first | go_big_quiet_step (fail) | quiet_step (fail))
    refine wpQuiet_nil ?_
    refine wpXL_quiet rfl rfl _ cls_begin ?_
    (first | go_big_quiet_step (fail) | quiet_step (fail))
    refine wpQuiet_nil ?_
    refine wpXL_quiet rfl rfl u (cls_at 1 u (by simp) (by kernel_rfl)) ?_
    (first | go_big_quiet_step (fail) | quiet_step (fail))
    refine wpQuiet_nil ?_
    repeat (refine wpXL_quiet rfl rfl _ cls_begin ?_; (first | go_big_quiet_step (fail) | quiet_step (fail)); refine wpQuiet_nil ?_)
    refine wpXL_nil ?_
    clear La Lb Lc
    have hsz : W0.heap.size ≤ u.heap.size := G.out.size
    have hwB : w.heap.size + 2 ≤ u.heap.size := by have := HZ.out; omega
    clear hsz
    cases q
    · have hna : ¬ atK l s t < l.length := by rw [HL.out]; exact of_decide_eq_false HQ.out.symm
      by_cases h6 : n = 16
      · have HF : Hid (errK l s t v = 3) := HFull.out hna (by rw [HL.out]; exact h6)
        have HP : Hid (putK l s t v = l) := put_err (by rw [HF.out]; decide)
        subst h6
        clear hna
        go_wp2_with fail
        go_ret2
        exact ⟨_, by rw [HF.out]; first | done | rfl, by rw [HP.out]; exact ownE_slE O.out, belowT HB.out G.out⟩
      · have HF : Hid (errK l s t v = 0) := HNew.out hna (by rw [HL.out]; exact h6)
        have HP : Hid (putK l s t v = l ++ [⟨s, t, bitK v⟩]) := put_new HF.out hna
        have e6 : ((n : Int) == 16) = false := by simp; omega
        have e6' : decide (n = 16) = false := decide_eq_false h6
        obtain ⟨B, hB⟩ : ∃ B, B = bitK v := ⟨_, rfl⟩
        have HBt := Lib.hid (fun W => stakeBitK v W)
        rw [← hB] at HBt HP
        obtain ⟨m, hm⟩ : ∃ m : Lk, m = ⟨s, t, B⟩ := ⟨_, rfl⟩
        have HMm := Lib.hid hm
        rw [← hm] at HP
        clear hna h6 hB hm
        go_wp2_with fail
        have Q1 := wdB_ld (B := w.heap.size + 2) (ck_v (blk_keep G.out M0.out)).a (by omega)
        have Q2 := wdB_ld (B := w.heap.size + 2) (ck_v (blk_keep G.out M1.out)).a (by omega)
        have Q0 := fun q : Wd u.drew => wd_ld (ck_v (blk_keep G.out M0.out)).a (by decide) q
        refine wp_region_lexT (w.heap.size + 2) [1] [4, 5, 6, 7] (by kernel_rfl) (by kernel_rfl) (by kernel_rfl) ?_
        refine wpXT_quiet2 rfl rfl rfl hwB ?_
        (first | go_big_quiet_step (fail) | quiet_step (fail)); refine wpQuiet_nil ?_
        refine wpXT_quiet1 rfl rfl rfl hwB ?_
        (first | go_big_quiet_step (fail) | quiet_step (fail)); refine wpQuiet_nil ?_
        repeat (refine wpXT_quiet2 rfl rfl rfl hwB ?_; (first | go_big_quiet_step (fail) | quiet_step (fail)); refine wpQuiet_nil ?_)
        refine wpXT_call rfl rfl rfl enters_stakeBit #[.int .i64 v] rfl ?_
        refine (HBt.out _).mono ?_
        rintro e u2 ⟨rfl, gu⟩
        refine ⟨_, rfl, gu, ?_⟩
        simp only [Act.put, List.setIfInBounds_toArray, List.set_cons_zero, List.set_cons_succ]
        have GU : Hid (Below u.heap.size u u2) := belowT (belowD (Below.refl _ _) 1) gu
        clear gu
        refine wpXT_eff rfl rfl (.agg (lk m)) u2 (by rw [HMm.out]; go_simp) (relE_lq (Below.refl _ _)) ?_
        simp only [Act.put, List.setIfInBounds_toArray, List.set_cons_zero, List.set_cons_succ]
        refine wpXT_eff rfl rfl (.slice (some ⟨u2.heap.size, 0, none⟩) 1 1) (u2.alloc (.cells (lk m) 36)) (by go_simp) (relE_lq below1) ?_
        simp only [Act.put, List.setIfInBounds_toArray, List.set_cons_zero, List.set_cons_succ]
        refine wpXT_append KlkB rfl rfl (by kernel_rfl) (.tmp 43) (.tmp 49) rfl W0.heap.size _ l rfl (ownE_keep (belowT GU.out below1) O.out) _ [m] rfl (lk_lit1 _ m _ rfl) (by have := HL.out; have := HN.out; simp [maxLen]; omega) (by have := HL.out; have := HN.out; simp; omega) (by have := G.out.size; have := GU.out.size; simp; omega) (by have := HZ.out; omega) ?_
        intro v5 w5 o5 g5
        simp only [Act.put, List.setIfInBounds_toArray, List.set_cons_zero, List.set_cons_succ]
        have D5 : Hid (Below W0.heap.size W0 w5) := (belowT G.out (belowT GU.out below1)).trans (g5.own (ownE_keep (belowT GU.out below1) O.out) (by have := G.out.size; have := GU.out.size; simp; omega))
        have O5 := Lib.hid o5
        clear o5 g5 Q0 Q1 Q2
        repeat (refine wpXT_quiet2 rfl rfl rfl hwB ?_; (first | go_big_quiet_step (fail) | quiet_step (fail)); refine wpQuiet_nil ?_)
        refine wpXT_nil ?_
        go_wp2_with fail
        go_ret2
        exact ⟨_, by rw [HF.out]; first | done | rfl, by rw [HP.out]; exact ownE_slE O5.out, belowT HB.out D5.out⟩
    · have hlt : a < n := by rw [HA.out]; exact of_decide_eq_true HQ.out.symm
      have HLT := Lib.hid hlt
      obtain rfl : c = (a : Int) := by rw [HC.out]; unfold whereK; rw [HL.out, ← HA.out, if_pos hlt]
      have hin : atK l s t < l.length := by rw [← HA.out, HL.out]; exact hlt
      have HF : Hid (errK l s t v = 0) := HThere.out hin
      have HP : Hid (putK l s t v = l.set a { lkAt l a with mask := (lkAt l a).mask ||| bitK v }) := by show _ = _; rw [put_there HF.out hin, HA.out]
      obtain ⟨g, c3, e3, hgb⟩ := ownK_form O.out HL.out (by omega)
      subst e3
      have HGb := Lib.hid hgb
      have x1 := ownK_rg O.out HL.out (by omega)
      have y3 := lks_mask x1 (i := a) (by have := HL.out; omega)
      rw [Nat.zero_add] at y3
      have a1 := k_or (lkAt l a).mask (bitK v)
      obtain ⟨Y, hY⟩ : ∃ Y, Y = (lkAt l a).mask ||| bitK v := ⟨_, rfl⟩
      rw [← hY] at HP a1
      have HBt := Lib.hid (fun W => stakeBitK v W)
      generalize hM : (lkAt l a).mask = M at y3 a1
      generalize hBv : bitK v = Bv at a1 HBt
      have Q0 := fun q : Wd u.drew => wd_cell y3 q
      have i0 : (0 : Int) ≤ (a : Int) := by omega
      have i1 : (a : Int) < (n : Int) := by omega
      clear hin hlt hgb x1 hY hM hBv y3
      go_wp2_with fail
      refine wp_region_lexT (w.heap.size + 2) [4] [6, 10] (by kernel_rfl) (by kernel_rfl) (by kernel_rfl) ?_
      repeat (refine wpXT_quiet2 rfl rfl rfl hwB ?_; (first | go_big_quiet_step (fail) | quiet_step (fail)); refine wpQuiet_nil ?_)
      refine wpXT_quiet1 rfl rfl rfl hwB ?_
      (first | go_big_quiet_step (fail) | quiet_step (fail)); refine wpQuiet_nil ?_
      repeat (refine wpXT_quiet2 rfl rfl rfl hwB ?_; (first | go_big_quiet_step (fail) | quiet_step (fail)); refine wpQuiet_nil ?_)
      refine wpXT_call rfl rfl rfl enters_stakeBit #[.int .i64 v] rfl ?_
      refine (HBt.out _).mono ?_
      rintro e u2 ⟨rfl, gu⟩
      refine ⟨_, rfl, gu, ?_⟩
      simp only [Act.put, List.setIfInBounds_toArray, List.set_cons_zero, List.set_cons_succ]
      have GU : Hid (Below u.heap.size u u2) := belowT (belowD (Below.refl _ _) 1) gu
      replace O := Lib.hid (ownE_keep GU.out O.out)
      replace G := Lib.hid (belowT G.out GU.out)
      clear gu
      repeat (refine wpXT_quiet2 rfl rfl rfl hwB ?_; (first | go_big_quiet_step (fail) | quiet_step (fail)); refine wpQuiet_nil ?_)
      obtain ⟨W6, hW6⟩ : ∃ W6, W6 = u2.setCell ⟨g, a * 67 + 66, none⟩ (.int .u64 (Y.toNat : Int)) := ⟨_, rfl⟩
      have f0 := ownK_frozen O.out HL.out (a * 67 + 66)
      have f2 := lks_mask (ownK_rg O.out HL.out (by have := HLT.out; omega)) (i := a) (by have := HL.out; have := HLT.out; omega)
      rw [Nat.zero_add] at f2
      have O6 : Hid (OwnE Elk W6 W0.heap.size (.slice (some ⟨g, 0, none⟩) n c3) (l.set a { lkAt l a with mask := Y })) := by rw [hW6]; exact ownK_put O.out HL.out HLT.out Y
      have G6 : Hid (Below W0.heap.size W0 W6) := by rw [hW6]; exact G.out.setCell (p := ⟨g, a * 67 + 66, none⟩) HGb.out _
      have HW6 := Lib.hid hW6
      clear hW6
      refine wpXT_store rfl rfl W6 (by rw [HW6.out]; go_simp) (relE_tail (by kernel_rfl) (by rw [HW6.out]; exact (Below.refl _ _).setCell (p := ⟨g, a * 67 + 66, none⟩) (by have := HGb.out; have := HZ.out; show w.heap.size + 2 ≤ g; omega) _)) ?_
      simp only [Act.put]
      refine wpXT_nil ?_
      clear Q0 f0 f2 a1
      go_wp2_with fail
      go_ret2
      exact ⟨_, by rw [HF.out]; first | done | rfl, by rw [HP.out]; exact ownE_slE O6.out, belowT HB.out G6.out⟩
theorem linkPut (u : Value) (l : List Lk) (s t : Ck) (v : Int) (w : World) (h : SlE Elk w u l) (hn : l.length ≤ 1000) :
    Calls Try.prog 10 #[u, .agg (cc s), .agg (cc t), .int .i64 v] w (LksEr (putK l s t v) (errK l s t v) w) := by
  have k := h
  obtain ⟨p, cl, rfl, _⟩ := slE_shape h
  exact progLinkPut_n p _ cl l s t v w k rfl hn
end Go.Proofs.Ytkbifcfgcokmlaa
