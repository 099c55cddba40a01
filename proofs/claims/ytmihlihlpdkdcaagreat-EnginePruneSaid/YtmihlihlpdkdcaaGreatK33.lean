import Derived.Test.YtmihlihlpdkdcaaGreatK14
import Derived.Test.YtmihlihlpdkdcaaGreatK20
import Derived.Deep.Cut
import Derived.Deep.CutRange
import Derived.Deep.RegionLaw
import Derived.Laws.Cover3
import Derived.Test.YtmihlihlpdkdcaaGreatK16
import Derived.Test.YtmihlihlpdkdcaaGreatK17
import Derived.Test.YtmihlihlpdkdcaaGreatK13
import Derived.Test.YtmihlihlpdkdcaaGreatQ09
import Derived.Test.YtmihlihlpdkdcaaGreatK29
import Derived.Test.YtmihlihlpdkdcaaGreatK31
import Derived.Test.YtmihlihlpdkdcaaGreatK24
import Derived.Test.YtmihlihlpdkdcaaGreatK25
import Derived.Test.YtmihlihlpdkdcaaGreatQ10
import Derived.Test.YtmihlihlpdkdcaaGreatK18
namespace Go.Proofs.YtmihlihlpdkdcaaGreat
open Go.RowKit
set_option maxRecDepth 200000
set_option maxHeartbeats 64000000
theorem zv9 (x : En) (g : Eg) (a : Aa) (w : World) (h : LaidG w x g) :
  Calls Tryz.prog 92 #[.agg (en x), .agg (aa a)] w fun e w' => e = .returned (.int .i64 (fitG g a : Int)) ∧ Below w.heap.size w w' := by
 obtain ⟨W0, hW0⟩ : ∃ W0, W0 = (w.alloc (.cells (en x) 39)).alloc (.cells (aa a) 62) := ⟨_, rfl⟩
 obtain ⟨hB, q0, q1, _⟩ := zd0 w _ _ _ _ W0 hW0
 have A : Hid (Gv w W0 w.heap.size x g) := ⟨q0, h.keep hB, hB⟩
 have M := Lib.hid q1
 have HW := Lib.hid hW0
 have HP := Lib.hid (fun r W hh => zfk x.t.n g.t r W hh)
 have HA := Lib.hid (fun i k W hh => zh2 x.t.n g.t i k W hh)
 obtain ⟨⟨pb, nb, cb⟩, hsb⟩ : ∃ s : SlV, s = x.bal := ⟨_, rfl⟩
 have HSb := Lib.hid hsb
 have HLb : Hid (g.bal.length = nb) := by
  obtain ⟨p', cap', e, _⟩ := zaj h.bal
  rw [← hsb] at e
  unfold sv at e; injection e with _ e; exact e.symm
 obtain ⟨R, hR⟩ : ∃ R, R = fitG g a := ⟨_, rfl⟩
 rw [← hR]
 have HR := Lib.hid hR
 obtain ⟨V, hV⟩ : ∃ V, V = a.val := ⟨_, rfl⟩
 have HV := Lib.hid hV
 obtain ⟨H, hH⟩ : ∃ k, k = zay g.t a.head := ⟨_, rfl⟩
 obtain ⟨S, hS⟩ : ∃ k, k = zay g.t a.source.root := ⟨_, rfl⟩
 obtain ⟨T, hT⟩ : ∃ k, k = zay g.t a.target.root := ⟨_, rfl⟩
 have HH := Lib.hid hH
 have HS := Lib.hid hS
 have HT := Lib.hid hT
 clear hW0 hB q0 q1 h hsb hR hV hH hS hT
 go_enter Tryz.func92, Tryz.ntmps92
 go_upto_region 1 with fail
 rw [← HW.out]
 have zT := A.out.zT
 have zh := (aa_v M.out).head
 go_wp2_with fail
 refine (HP.out a.head _ A.out.l.t).mono ?_
 rintro e w1 ⟨rfl, gg⟩
 rw [← HH.out]
 replace A := Lib.hid (A.out.keep gg)
 replace M := Lib.hid (zab gg M.out)
 clear gg zT zh
 have zT := A.out.zT
 have zh := (aa_v M.out).sr
 go_wp2_with fail
 refine (HP.out a.source.root _ A.out.l.t).mono ?_
 rintro e w2 ⟨rfl, gg⟩
 rw [← HS.out]
 replace A := Lib.hid (A.out.keep gg)
 replace M := Lib.hid (zab gg M.out)
 clear gg zT zh
 have zT := A.out.zT
 have zh := (aa_v M.out).tr
 go_wp2_with fail
 refine (HP.out a.target.root _ A.out.l.t).mono ?_
 rintro e w3 ⟨rfl, gg⟩
 rw [← HT.out]
 replace A := Lib.hid (A.out.keep gg)
 replace M := Lib.hid (zab gg M.out)
 clear gg zT zh HP
 have zv := (aa_v M.out).val
 rw [← HV.out] at zv
 have zb := A.out.zb
 rw [← HSb.out, zat] at zb
 by_cases h1 : V < 0
 ·
  have t1 : decide (V < 0) = true := decide_eq_true h1
  have hr : Hid (R = 10) := by show R = 10; rw [HR.out]; exact yet (by rw [← HV.out]; omega)
  clear h1
  go_wp2_with fail
  (try rw [Exit.noGoto_ret])
  go_ret
  exact ⟨by rw [hr.out]; first | done | rfl, A.out.g⟩
 have t1 : decide (V < 0) = false := decide_eq_false h1
 by_cases h2 : (nb : Int) ≤ V
 ·
  have t2 : decide ((nb : Int) ≤ V) = true := decide_eq_true h2
  have hr : Hid (R = 10) := by show R = 10; rw [HR.out]; exact yet (by rw [← HV.out, HLb.out]; omega)
  clear h1 h2
  go_wp2_with fail
  (try rw [Exit.noGoto_ret])
  go_ret
  exact ⟨by rw [hr.out]; first | done | rfl, A.out.g⟩
 have t2 : decide ((nb : Int) ≤ V) = false := decide_eq_false h2
 have HVal : Hid (0 ≤ a.val ∧ a.val < g.bal.length) := by show _ ∧ _; rw [← HV.out, HLb.out]; omega
 clear h1 h2
 by_cases h1 : H < 0
 ·
  have t3 : decide (H < 0) = true := decide_eq_true h1
  have hr : Hid (R = 5) := by show R = 5; rw [HR.out]; exact ydm HVal.out (by rw [← HH.out]; omega)
  clear h1
  go_wp2_with fail
  (try rw [Exit.noGoto_ret])
  go_ret
  exact ⟨by rw [hr.out]; first | done | rfl, A.out.g⟩
 have t3 : decide (H < 0) = false := decide_eq_false h1
 by_cases h2 : S < 0
 ·
  have t4 : decide (S < 0) = true := decide_eq_true h2
  have hr : Hid (R = 5) := by show R = 5; rw [HR.out]; exact ydm HVal.out (by rw [← HS.out]; omega)
  clear h1 h2
  go_wp2_with fail
  (try rw [Exit.noGoto_ret])
  go_ret
  exact ⟨by rw [hr.out]; first | done | rfl, A.out.g⟩
 have t4 : decide (S < 0) = false := decide_eq_false h2
 by_cases h3 : T < 0
 ·
  have t5 : decide (T < 0) = true := decide_eq_true h3
  have hr : Hid (R = 5) := by show R = 5; rw [HR.out]; exact ydm HVal.out (by rw [← HT.out]; omega)
  clear h1 h2 h3
  go_wp2_with fail
  (try rw [Exit.noGoto_ret])
  go_ret
  exact ⟨by rw [hr.out]; first | done | rfl, A.out.g⟩
 have t5 : decide (T < 0) = false := decide_eq_false h3
 obtain ⟨X, hX⟩ : ∃ b, b = zcj g.t S T := ⟨_, rfl⟩
 obtain ⟨Y, hY⟩ : ∃ b, b = zcj g.t T H := ⟨_, rfl⟩
 obtain ⟨SE, hSE⟩ : ∃ n, n = a.source.epoch.toNat := ⟨_, rfl⟩
 obtain ⟨TE, hTE⟩ : ∃ n, n = a.target.epoch.toNat := ⟨_, rfl⟩
 have HF : Hid (R = if SE < TE ∧ X = true ∧ Y = true then 0 else 9) := by
  show R = _
  rw [HR.out, yi6 HVal.out (by rw [← HH.out, ← HS.out, ← HT.out]; omega), hX, hY, hSE, hTE, HH.out, HS.out, HT.out]
 have z1 := (aa_v M.out).te
 have z2 := (aa_v M.out).se
 rw [← hTE] at z1
 rw [← hSE] at z2
 have HXa := Lib.hid hX
 have HYa := Lib.hid hY
 clear h1 h2 h3 hX hY hSE hTE
 by_cases h1 : TE ≤ SE
 ·
  have t6 : decide ((TE : Int) ≤ (SE : Int)) = true := decide_eq_true (by omega)
  have t6' : decide (TE ≤ SE) = true := decide_eq_true h1
  have hr : Hid (R = 9) := by show R = 9; rw [HF.out]; exact if_neg (by omega)
  clear h1
  go_wp2_with fail
  (try rw [Exit.noGoto_ret])
  go_ret
  exact ⟨by rw [hr.out]; first | done | rfl, A.out.g⟩
 have t6 : decide ((TE : Int) ≤ (SE : Int)) = false := decide_eq_false (by omega)
 have t6' : decide (TE ≤ SE) = false := decide_eq_false h1
 have HLt : Hid (SE < TE) := by show SE < TE; omega
 clear h1
 have zT := A.out.zT
 go_wp2_with fail
 refine (HA.out S T _ A.out.l.t).mono ?_
 rintro e w4 ⟨rfl, gg⟩
 rw [← HXa.out]
 replace A := Lib.hid (A.out.keep gg)
 replace M := Lib.hid (zab gg M.out)
 clear gg zT z1 z2 zv zb
 cases X
 ·
  have hr : Hid (R = 9) := by show R = 9; rw [HF.out]; exact if_neg (by simp)
  go_wp2_with fail
  (try rw [Exit.noGoto_ret])
  go_ret
  exact ⟨by rw [hr.out]; first | done | rfl, A.out.g⟩
 have zT := A.out.zT
 go_wp2_with fail
 refine (HA.out T H _ A.out.l.t).mono ?_
 rintro e w5 ⟨rfl, gg⟩
 rw [← HYa.out]
 replace A := Lib.hid (A.out.keep gg)
 clear gg zT HA
 cases Y
 ·
  have hr : Hid (R = 9) := by show R = 9; rw [HF.out]; exact if_neg (by simp)
  go_wp2_with fail
  (try rw [Exit.noGoto_ret])
  go_ret
  exact ⟨by rw [hr.out]; first | done | rfl, A.out.g⟩
 ·
  have hr : Hid (R = 0) := by show R = 0; rw [HF.out]; exact if_pos ⟨HLt.out, by first | rfl | trivial, by first | rfl | trivial⟩
  go_wp2_with fail
  (try rw [Exit.noGoto_ret])
  go_ret
  exact ⟨by rw [hr.out]; first | done | rfl, A.out.g⟩
section
open Go.Maps
theorem z0c (v : Int) (w : World) : Calls Tryz.prog 144 #[.int .i64 v] w fun e w' => e = .returned (.int .u64 ((bitK v).toNat : Int)) ∧ Below w.heap.size w w' := by
 rw [z7i]; exact zna v w
theorem zwv (p : Option Addr) (n cp : Nat) (l : List Lk) (s t : Ck) (v : Int) (w : World) (h : SlE Elk w (.slice p n cp) l) (hl : l.length = n) (hn : n ≤ 1000) :
  Calls Tryz.prog 121 #[.slice p n cp, .agg (cc s), .agg (cc t), .int .i64 v] w (yr7 (putK l s t v) (errK l s t v) w) := by
 obtain ⟨W0, hW0⟩ : ∃ W0, W0 = (w.alloc (.cells (cc s) 37)).alloc (.cells (cc t) 37) := ⟨_, rfl⟩
 obtain ⟨hB, m0, m1, hz⟩ := zd0 w _ _ _ _ W0 hW0
 have HB := Lib.hid hB
 have HW := Lib.hid hW0
 have HZ := Lib.hid hz
 have HS := Lib.hid (zac hB h)
 have HL := Lib.hid hl
 have HN := Lib.hid hn
 have M0 := Lib.hid m0
 have M1 := Lib.hid m1
 have HCl := Lib.hid (yc7 (.slice p n cp) l W0 (zac hB h) (by omega))
 have HMy := Lib.hid (fun W (g : Below W0.heap.size W0 W) => z4l (.slice p n cp) l W (zac g (zac hB h)))
 obtain ⟨b, hb⟩ : ∃ b, b = mayL l := ⟨_, rfl⟩
 rw [← hb] at HMy
 have HBb := Lib.hid hb
 have HF3 := Lib.hid (fun W => z1u s t W)
 obtain ⟨F, hF⟩ : ∃ F, F = decide (s.epoch.toNat < t.epoch.toNat) := ⟨_, rfl⟩
 rw [← hF] at HF3
 have HFe := Lib.hid hF
 clear h hl hn hW0 hB m0 m1 hz hb hF
 go_enter Tryz.func121, Tryz.ntmps121
 go_upto_region 1 with fail
 rw [← HW.out]
 go_wp2_with fail
 refine HCl.out.mono ?_
 rintro e w1 ⟨o0, rfl, ho, g⟩
 have O := Lib.hid ho
 have G := Lib.hid g
 clear ho g
 go_wp2_with fail
 refine (HMy.out w1 G.out).mono ?_
 rintro e w2 ⟨rfl, g⟩
 replace O := Lib.hid (zah g O.out)
 replace G := Lib.hid (zad G.out g)
 clear g
 cases b
 ·
  have HF : Hid (errK l s t v = 1) := yf6 HBb.out.symm
  have HP : Hid (putK l s t v = l) := zpi (by rw [HF.out]; decide)
  go_wp2_with fail
  go_ret2
  exact ⟨_, by rw [HF.out]; first | done | rfl, by rw [HP.out]; exact zak O.out, zad HB.out G.out⟩
 ·
  by_cases h1 : v < 0
  ·
   have t1 : decide (v < 0) = true := decide_eq_true h1
   have HF : Hid (errK l s t v = 10) := z49 HBb.out.symm (by omega)
   have HP : Hid (putK l s t v = l) := zpi (by rw [HF.out]; decide)
   clear h1
   go_wp2_with fail
   go_ret2
   exact ⟨_, by rw [HF.out]; first | done | rfl, by rw [HP.out]; exact zak O.out, zad HB.out G.out⟩
  have t1 : decide (v < 0) = false := decide_eq_false h1
  by_cases h2 : 8 ≤ v
  ·
   have t2 : decide (8 ≤ v) = true := decide_eq_true h2
   have HF : Hid (errK l s t v = 10) := z49 HBb.out.symm (by omega)
   have HP : Hid (putK l s t v = l) := zpi (by rw [HF.out]; decide)
   clear h1 h2
   go_wp2_with fail
   go_ret2
   exact ⟨_, by rw [HF.out]; first | done | rfl, by rw [HP.out]; exact zak O.out, zad HB.out G.out⟩
  have t2 : decide (8 ≤ v) = false := decide_eq_false h2
  have hv : 0 ≤ v ∧ v < 8 := by omega
  have HV := Lib.hid hv
  clear h1 h2 hv
  have y1 := (ck_v (zab G.out M0.out)).a
  have y2 := (ck_v (zab G.out M1.out)).a
  go_wp2_with fail
  refine (HF3.out w2).mono ?_
  rintro e w3 ⟨rfl, g⟩
  replace O := Lib.hid (zah g O.out)
  replace G := Lib.hid (zad G.out g)
  clear g y1 y2 t1 t2
  cases F
  ·
   have HF : Hid (errK l s t v = 9) := z6d HBb.out.symm HV.out (of_decide_eq_false HFe.out.symm)
   have HP : Hid (putK l s t v = l) := zpi (by rw [HF.out]; decide)
   go_wp2_with fail
   go_ret2
   exact ⟨_, by rw [HF.out]; first | done | rfl, by rw [HP.out]; exact zak O.out, zad HB.out G.out⟩
  have he : s.epoch.toNat < t.epoch.toNat := of_decide_eq_true HFe.out.symm
  have HThere : Hid (atK l s t < l.length → errK l s t v = 0) := fun ha => zrc HBb.out.symm HV.out he ha
  have HFull : Hid (¬ atK l s t < l.length → l.length = 16 → errK l s t v = 3) := fun ha hq => z7z HBb.out.symm HV.out he ha hq
  have HNew : Hid (¬ atK l s t < l.length → ¬ l.length = 16 → errK l s t v = 0) := fun ha hq => yp2 HBb.out.symm HV.out he ha hq
  clear he HMy HCl HF3
  go_wp2_with fail
  have La := fun q : Wd w3.drew => zb8 (ck_v (zab G.out M0.out)).a (by decide) q
  have Lb := fun q : Wd w3.drew => zb8 (ck_v (zab G.out M1.out)).a (by decide) q
  have HLK := Lib.hid (ym0 l s t)
  rw [HL.out] at HLK
  obtain ⟨a, ha⟩ : ∃ a, a = atK l s t := ⟨_, rfl⟩
  have HA := Lib.hid ha
  obtain ⟨q, hq⟩ : ∃ q, q = decide (atK l s t < n) := ⟨_, rfl⟩
  rw [← hq] at HLK
  have HQ := Lib.hid hq
  obtain ⟨c, hc⟩ : ∃ c, c = z1e l s t := ⟨_, rfl⟩
  rw [← hc] at HLK
  have HC := Lib.hid hc
  clear ha hq hc
  refine za4 [1] (by kernel_rfl) (by kernel_rfl) (by kernel_rfl) ?_
  repeat (refine zae rfl rfl _ zag ?_; (first | go_big_quiet_step (fail) | quiet_step (fail)); refine wpQuiet_nil ?_)
  refine zau rfl rfl rfl zog #[.slice p n cp] rfl ?_
  refine (zi7 p n cp l _ (zac (zad G.out (zap (Below.refl _ _) 1)) HS.out) HL.out HN.out).mono ?_
  rintro e u ⟨bm, rfl, ho, g⟩
  refine ⟨_, rfl, g, ?_⟩
  simp only [Act.put, List.setIfInBounds_toArray, List.set_cons_zero, List.set_cons_succ]
  have Lc := fun q : Wd u => yrd (zb6 q.h ho) HLK.out.2
  rw [HLK.out.1] at Lc
  have g0 : Below w3.heap.size w3 u := zad (zap (Below.refl _ _) 1) g
  replace O := Lib.hid (zah g0 O.out)
  replace G := Lib.hid (zad G.out g0)
  clear g g0 ho
  refine zae rfl rfl _ zag ?_
  (first | go_big_quiet_step (fail) | quiet_step (fail))
  refine wpQuiet_nil ?_
  refine zae rfl rfl _ zag ?_
  (first | go_big_quiet_step (fail) | quiet_step (fail))
  refine wpQuiet_nil ?_
  refine zae rfl rfl _ zag ?_
  (first | go_big_quiet_step (fail) | quiet_step (fail))
  refine wpQuiet_nil ?_
  refine zae rfl rfl u (yhp 1 u (by simp) (by kernel_rfl)) ?_
  (first | go_big_quiet_step (fail) | quiet_step (fail))
  refine wpQuiet_nil ?_
  repeat (refine zae rfl rfl _ zag ?_; (first | go_big_quiet_step (fail) | quiet_step (fail)); refine wpQuiet_nil ?_)
  refine zbx ?_
  clear La Lb Lc
  have hsz : W0.heap.size ≤ u.heap.size := G.out.size
  have hwB : w.heap.size + 2 ≤ u.heap.size := by have := HZ.out; omega
  clear hsz
  cases q
  ·
   have hna : ¬ atK l s t < l.length := by rw [HL.out]; exact of_decide_eq_false HQ.out.symm
   by_cases h6 : n = 16
   ·
    have HF : Hid (errK l s t v = 3) := HFull.out hna (by rw [HL.out]; exact h6)
    have HP : Hid (putK l s t v = l) := zpi (by rw [HF.out]; decide)
    subst h6
    clear hna
    go_wp2_with fail
    go_ret2
    exact ⟨_, by rw [HF.out]; first | done | rfl, by rw [HP.out]; exact zak O.out, zad HB.out G.out⟩
   ·
    have HF : Hid (errK l s t v = 0) := HNew.out hna (by rw [HL.out]; exact h6)
    have HP : Hid (putK l s t v = l ++ [⟨s, t, bitK v⟩]) := z5h HF.out hna
    have e6 : ((n : Int) == 16) = false := by simp; omega
    have e6' : decide (n = 16) = false := decide_eq_false h6
    obtain ⟨B, hB⟩ : ∃ B, B = bitK v := ⟨_, rfl⟩
    have HBt := Lib.hid (fun W => z0c v W)
    rw [← hB] at HBt HP
    obtain ⟨m, hm⟩ : ∃ m : Lk, m = ⟨s, t, B⟩ := ⟨_, rfl⟩
    have HMm := Lib.hid hm
    rw [← hm] at HP
    clear hna h6 hB hm
    go_wp2_with fail
    have Q1 := zva (B := w.heap.size + 2) (ck_v (zab G.out M0.out)).a (by omega)
    have Q2 := zva (B := w.heap.size + 2) (ck_v (zab G.out M1.out)).a (by omega)
    have Q0 := fun q : Wd u.drew => zb8 (ck_v (zab G.out M0.out)).a (by decide) q
    refine zdj (w.heap.size + 2) [1] [4, 5, 6, 7] (by kernel_rfl) (by kernel_rfl) (by kernel_rfl) ?_
    refine zbq rfl rfl rfl hwB ?_
    (first | go_big_quiet_step (fail) | quiet_step (fail)); refine wpQuiet_nil ?_
    refine zfc rfl rfl rfl hwB ?_
    (first | go_big_quiet_step (fail) | quiet_step (fail)); refine wpQuiet_nil ?_
    repeat (refine zbq rfl rfl rfl hwB ?_; (first | go_big_quiet_step (fail) | quiet_step (fail)); refine wpQuiet_nil ?_)
    refine zhy rfl rfl rfl zeu #[.int .i64 v] rfl ?_
    refine (HBt.out _).mono ?_
    rintro e u2 ⟨rfl, gu⟩
    refine ⟨_, rfl, gu, ?_⟩
    simp only [Act.put, List.setIfInBounds_toArray, List.set_cons_zero, List.set_cons_succ]
    have GU : Hid (Below u.heap.size u u2) := zad (zap (Below.refl _ _) 1) gu
    clear gu
    refine znr rfl rfl (.agg (lk m)) u2 (by rw [HMm.out]; go_simp) (zcw (Below.refl _ _)) ?_
    simp only [Act.put, List.setIfInBounds_toArray, List.set_cons_zero, List.set_cons_succ]
    refine znr rfl rfl (.slice (some ⟨u2.heap.size, 0, none⟩) 1 1) (u2.alloc (.cells (lk m) 110)) (by go_simp) (zcw below1) ?_
    simp only [Act.put, List.setIfInBounds_toArray, List.set_cons_zero, List.set_cons_succ]
    refine ztf KlkB rfl rfl (by kernel_rfl) (.tmp 43) (.tmp 49) rfl W0.heap.size _ l rfl (zah (zad GU.out below1) O.out) _ [m] rfl (yh9 _ m _ rfl) (by have := HL.out; have := HN.out; simp [maxLen]; omega) (by have := HL.out; have := HN.out; simp; omega) (by have := G.out.size; have := GU.out.size; simp; omega) (by have := HZ.out; omega) ?_
    intro v5 w5 o5 g5
    simp only [Act.put, List.setIfInBounds_toArray, List.set_cons_zero, List.set_cons_succ]
    have D5 : Hid (Below W0.heap.size W0 w5) := (zad G.out (zad GU.out below1)).trans (g5.own (zah (zad GU.out below1) O.out) (by have := G.out.size; have := GU.out.size; simp; omega))
    have O5 := Lib.hid o5
    clear o5 g5 Q0 Q1 Q2
    repeat (refine zbq rfl rfl rfl hwB ?_; (first | go_big_quiet_step (fail) | quiet_step (fail)); refine wpQuiet_nil ?_)
    refine zk4 ?_
    go_wp2_with fail
    go_ret2
    exact ⟨_, by rw [HF.out]; first | done | rfl, by rw [HP.out]; exact zak O5.out, zad HB.out D5.out⟩
  ·
   have hlt : a < n := by rw [HA.out]; exact of_decide_eq_true HQ.out.symm
   have HLT := Lib.hid hlt
   obtain rfl : c = (a : Int) := by rw [HC.out]; unfold z1e; rw [HL.out, ← HA.out, if_pos hlt]
   have hin : atK l s t < l.length := by rw [← HA.out, HL.out]; exact hlt
   have HF : Hid (errK l s t v = 0) := HThere.out hin
   have HP : Hid (putK l s t v = l.set a { lkAt l a with mask := (lkAt l a).mask ||| bitK v }) := by show _ = _; rw [zkf HF.out hin, HA.out]
   obtain ⟨g, c3, e3, hgb⟩ := ycr O.out HL.out (by omega)
   subst e3
   have HGb := Lib.hid hgb
   have x1 := yd2 O.out HL.out (by omega)
   have y3 := z7l x1 (i := a) (by have := HL.out; omega)
   rw [Nat.zero_add] at y3
   have a1 := k_or (lkAt l a).mask (bitK v)
   obtain ⟨Y, hY⟩ : ∃ Y, Y = (lkAt l a).mask ||| bitK v := ⟨_, rfl⟩
   rw [← hY] at HP a1
   have HBt := Lib.hid (fun W => z0c v W)
   generalize hM : (lkAt l a).mask = M at y3 a1
   generalize hBv : bitK v = Bv at a1 HBt
   have Q0 := fun q : Wd u.drew => za3 y3 q
   have i0 : (0 : Int) ≤ (a : Int) := by omega
   have i1 : (a : Int) < (n : Int) := by omega
   clear hin hlt hgb x1 hY hM hBv y3
   go_wp2_with fail
   refine zdj (w.heap.size + 2) [4] [6, 10] (by kernel_rfl) (by kernel_rfl) (by kernel_rfl) ?_
   repeat (refine zbq rfl rfl rfl hwB ?_; (first | go_big_quiet_step (fail) | quiet_step (fail)); refine wpQuiet_nil ?_)
   refine zfc rfl rfl rfl hwB ?_
   (first | go_big_quiet_step (fail) | quiet_step (fail)); refine wpQuiet_nil ?_
   repeat (refine zbq rfl rfl rfl hwB ?_; (first | go_big_quiet_step (fail) | quiet_step (fail)); refine wpQuiet_nil ?_)
   refine zhy rfl rfl rfl zeu #[.int .i64 v] rfl ?_
   refine (HBt.out _).mono ?_
   rintro e u2 ⟨rfl, gu⟩
   refine ⟨_, rfl, gu, ?_⟩
   simp only [Act.put, List.setIfInBounds_toArray, List.set_cons_zero, List.set_cons_succ]
   have GU : Hid (Below u.heap.size u u2) := zad (zap (Below.refl _ _) 1) gu
   replace O := Lib.hid (zah GU.out O.out)
   replace G := Lib.hid (zad G.out GU.out)
   clear gu
   repeat (refine zbq rfl rfl rfl hwB ?_; (first | go_big_quiet_step (fail) | quiet_step (fail)); refine wpQuiet_nil ?_)
   obtain ⟨W6, hW6⟩ : ∃ W6, W6 = u2.setCell ⟨g, a * 67 + 66, none⟩ (.int .u64 (Y.toNat : Int)) := ⟨_, rfl⟩
   have f0 := z4u O.out HL.out (a * 67 + 66)
   have f2 := z7l (yd2 O.out HL.out (by have := HLT.out; omega)) (i := a) (by have := HL.out; have := HLT.out; omega)
   rw [Nat.zero_add] at f2
   have O6 : Hid (OwnE Elk W6 W0.heap.size (.slice (some ⟨g, 0, none⟩) n c3) (l.set a { lkAt l a with mask := Y })) := by rw [hW6]; exact ynm O.out HL.out HLT.out Y
   have G6 : Hid (Below W0.heap.size W0 W6) := by rw [hW6]; exact G.out.setCell (p := ⟨g, a * 67 + 66, none⟩) HGb.out _
   have HW6 := Lib.hid hW6
   clear hW6
   refine zid rfl rfl W6 (by rw [HW6.out]; go_simp) (zcr (by kernel_rfl) (by rw [HW6.out]; exact (Below.refl _ _).setCell (p := ⟨g, a * 67 + 66, none⟩) (by have := HGb.out; have := HZ.out; show w.heap.size + 2 ≤ g; omega) _)) ?_
   simp only [Act.put]
   refine zk4 ?_
   clear Q0 f0 f2 a1
   go_wp2_with fail
   go_ret2
   exact ⟨_, by rw [HF.out]; first | done | rfl, by rw [HP.out]; exact zak O6.out, zad HB.out G6.out⟩
theorem ypw (u : Value) (l : List Lk) (s t : Ck) (v : Int) (w : World) (h : SlE Elk w u l) (hn : l.length ≤ 1000) :
  Calls Tryz.prog 121 #[u, .agg (cc s), .agg (cc t), .int .i64 v] w (yr7 (putK l s t v) (errK l s t v) w) := by
 have k := h
 obtain ⟨p, cl, rfl, _⟩ := zaj h
 exact zwv p _ cl l s t v w k rfl hn
end
theorem zo4 {g : Eg} (m : MayS' g) : g.t.length ≤ 1000 ∧ g.bal.length ≤ 1000 ∧ g.v.l.length ≤ 999 ∧ g.w.length ≤ 1000 ∧ g.late.length ≤ 6 ∧ g.k.length ≤ 16 := by
 have h1 := (zfl.1 m.bal).2.1
 have h2 := (zdy.1 m.late).1
 have h3 := (zex.1 m.k).2
 have h4 := m.t.le
 exact ⟨by omega, by omega, by rw [m.vl]; omega, by rw [m.w, zj8 m.fit]; omega, by omega, by omega⟩
theorem ys2 {g : Eg} {a : Aa} (m : MayS' g) (hf : fitG g a = 0) (h0 : zlz g a = 0) : ze0 g.t g.w (zix g.t g.v (ctV g a) g.bal) (zez g.t g.v (ctV g a) g.bal) = true ∧ zpd g.t g.w (zix g.t g.v (ctV g a) g.bal) (zez g.t g.v (ctV g a) g.bal) = wtsL g.t (ctV g a) g.bal := by
 have hg := (ct_G m hf).fit
 rw [yoe h0] at hg
 have := yej (l := g.t) (was := g.v) (is := ctV g a) (bal := g.bal) (ztk.2 ⟨m.fit, hg⟩)
 rw [m.w]
 exact this
theorem zp6 (x : En) (g : Eg) (a : Aa) (w : World) (h : LaidG w x g) (m : MayS' g) (hf : fitG g a = 0) (hj : g.j.length ≤ 1900) :
  Calls Tryz.prog 93 #[.agg (en x), .agg (aa a)] w (EgErN (ctG g a) (zlz g a) x g w) := by
 obtain ⟨W0, hW0⟩ : ∃ W0, W0 = ((w.alloc (.cells (en x) 39)).alloc (.cells (aa a) 62)).alloc (.cells (en zen) 39) := ⟨_, rfl⟩
 obtain ⟨hB, q0, q1, q2, _⟩ := zfw w _ _ _ _ _ _ W0 hW0
 have A : Hid (Gp w x g (w.heap.size + 2) W0 w.heap.size x g) := zfx h hB q0 ⟨_, q2⟩ (Nat.le_refl _) (by omega) (by omega)
 have M := Lib.hid q1
 have HW := Lib.hid hW0
 have sh := zo4 m
 have HPs : Hid (zlz g a = 0 → zpd g.t g.w (zix g.t g.v (ctV g a) g.bal) (zez g.t g.v (ctV g a) g.bal) = wtsL g.t (ctV g a) g.bal) := fun e => (ys2 m hf e).2
 obtain ⟨K, hK⟩ : ∃ K, K = ctK g a := ⟨_, rfl⟩
 obtain ⟨V, hV⟩ : ∃ V, V = ctV g a := ⟨_, rfl⟩
 obtain ⟨R, hR⟩ : ∃ R, R = zlz g a := ⟨_, rfl⟩
 have HKl : Hid (K.length ≤ 1000 ∧ g.j.length + K.length ≤ 2000) := by
  show _ ∧ _
  rw [hK]; unfold ctK
  have := yl9 (l := g.k) (s := a.source) (t := a.target) (v := a.val)
  omega
 have HP2 : Hid (∀ W, SlE Elk W (sv x.k) g.k → Calls Tryz.prog 121 #[sv x.k, .agg (cc a.source), .agg (cc a.target), .int .i64 a.val] W (yr7 K R W)) := by
  show ∀ _, _
  rw [hK, hR]; exact fun W hh => ypw (sv x.k) g.k a.source a.target a.val W hh (by omega)
 have HPu2 : Hid (∀ W, SlE Elt W (sv x.v.l) g.v.l → Calls Tryz.prog 122 #[.agg (vo ⟨x.v.l, g.v.out⟩), .int .i64 a.val, .agg (rc a.head), .int .u64 (a.target.epoch.toNat : Int)] W (VoEr V (zui g.v a.val a.head a.target.epoch) (zuw g.v a.val) W)) := by
  show ∀ _, _
  rw [hV]; exact fun W hh => ypk x.v.l g.v a.val a.head a.target.epoch W hh (by omega)
 obtain ⟨WW, hWW⟩ : ∃ l, l = wtsL g.t V g.bal := ⟨_, rfl⟩
 obtain ⟨PL, hPL⟩ : ∃ l, l = zix g.t g.v V g.bal := ⟨_, rfl⟩
 obtain ⟨MI, hMI⟩ : ∃ l, l = zez g.t g.v V g.bal := ⟨_, rfl⟩
 have HOf : Hid (∀ s W, LaidG W x g → SlE Elt W (sv s) V.l → Calls Tryz.prog 95 #[.agg (tr ⟨x.t.n⟩), .agg (vo ⟨x.v.l, g.v.out⟩), .agg (vo ⟨s, V.out⟩), sv x.bal] W (ysc PL MI (ofB g.t g.v V g.bal) W)) := by
  show ∀ _, _
  rw [hPL, hMI]
  exact fun s W l k => ydv x.t.n x.v.l s (sv x.bal) g.t g.v V g.bal W l.t l.v k l.bal
 have HPa : Hid (R = 0 → ∀ v2 v3 W, LaidG W x g → SlE Enum W v2 PL → SlE Enum W v3 MI → Calls Tryz.prog 123 #[.agg (tr ⟨x.t.n⟩), sv x.w, v2, v3] W (NumsOk WW (ze0 g.t g.w PL MI) W)) := fun e v2 v3 W l h2 h3 => by
  have := yjw x.t.n (sv x.w) v2 v3 g.t g.w PL MI W l.t l.w h2 h3
  have e2 := HPs.out (by rw [← hR]; exact e)
  rw [← hV, ← hPL, ← hMI, ← hWW] at e2
  rwa [e2] at this
 obtain ⟨J, hJ⟩ : ∃ J, J = zda g.t K g.bal g.j := ⟨_, rfl⟩
 have HJl : Hid (J.length ≤ 2000) := by
  show _ ≤ _
  rw [hJ]
  have := zvi (l := g.t) (ls := K) (bal := g.bal) (js := g.j)
  have := HKl.out.2
  omega
 have HMo : Hid (∀ u W, SlE Ene W (sv x.t.n) g.t → SlE Elk W u K → SlE Enum W (sv x.bal) g.bal → SlE Ecc W (sv x.j) g.j → Calls Tryz.prog 106 #[.agg (tr ⟨x.t.n⟩), u, sv x.bal, sv x.j] W fun e w' => ∃ v, e = .returned v ∧ OwnE Ecc w' W.heap.size v J ∧ Below W.heap.size W w') := by
  show ∀ _, _
  rw [hJ]
  exact fun u W h1 h2 h3 h4 => z55 x.t.n u (sv x.bal) (sv x.j) g.t K g.bal g.j W h1 h2 h3 h4 (by omega) HKl.out.1
 obtain ⟨F, hF⟩ : ∃ F, F = zha g.t K g.bal J g.fin := ⟨_, rfl⟩
 have HNx : Hid (∀ u vj W, SlE Ene W (sv x.t.n) g.t → SlE Elk W u K → SlE Enum W (sv x.bal) g.bal → SlE Ecc W vj J → Calls Tryz.prog 107 #[.agg (tr ⟨x.t.n⟩), u, sv x.bal, vj, .agg (cc g.fin)] W fun e w' => e = .returned (.agg (cc F)) ∧ Below W.heap.size W w') := by
  show ∀ _, _
  rw [hF]
  exact fun u vj W h1 h2 h3 h4 => z7x x.t.n u (sv x.bal) vj g.t K g.bal J g.fin W h1 h2 h3 h4 HKl.out.1 HJl.out
 obtain ⟨G, hG⟩ : ∃ G, G = ctG g a := ⟨_, rfl⟩
 have HGe : Hid (R ≠ 0 → G = g) := fun e => by rw [hG]; exact ysd (by rw [← hR]; exact e)
 have HGo : Hid (R = 0 → G = { g with k := K, v := V, w := WW, j := J, fin := F }) := fun e => by
  rw [hG, yoe (by rw [← hR]; exact e), hF, hJ, hWW, hK, hV]; rfl
 rw [← hR, ← hG]
 obtain ⟨T, hT⟩ : ∃ T, T = w.heap.size := ⟨_, rfl⟩
 obtain ⟨Q, hQ⟩ : ∃ Q, Q = w.heap.size + 2 := ⟨_, rfl⟩
 have HTQ : Hid (T = w.heap.size ∧ Q = w.heap.size + 2) := ⟨hT, hQ⟩
 rw [← hQ, ← hT] at A
 clear hW0 hB q0 q1 q2 h m hf hj sh HPs hK hV hR hWW hPL hMI hJ hF hG
 go_enter Tryz.func93, Tryz.ntmps93
 go_upto_region 1 with fail
 rw [← HW.out, ← hQ, ← hT]
 clear hT hQ
 have zk := A.out.s.v.zk
 have z1 := (aa_v M.out).src
 have z2 := (aa_v M.out).tgt
 have z3 := (aa_v M.out).val
 rw [← HTQ.out.1] at z1 z2 z3
 go_wp2_with fail
 refine (HP2.out _ A.out.s.l.k).mono ?_
 rintro e w1 ⟨vk, rfl, hk, gg⟩
 obtain ⟨pk, ck, rfl⟩ := zz9 hk
 replace A := Lib.hid (A.out.keep gg)
 replace M := Lib.hid (zab gg M.out)
 have SK := Lib.hid hk
 clear gg zk z1 z2 z3 hk
 by_cases h0 : R = 0
 ·
  have HG := Lib.hid (HGo.out h0)
  replace HPa := Lib.hid (HPa.out h0)
  subst h0
  clear HGe HGo
  have zV := A.out.s.v.zV
  have z1 := (aa_v M.out).val
  have z2 := (aa_v M.out).head
  have z3 := (aa_v M.out).te
  rw [← HTQ.out.1] at z1 z2 z3
  go_wp2_with fail
  refine (HPu2.out _ A.out.s.l.v).mono ?_
  rintro e w2 ⟨sv2, rfl, hv2, gg⟩
  replace A := Lib.hid (A.out.keep gg)
  replace SK := Lib.hid (zac gg SK.out)
  clear gg zV z1 z2 z3 M
  have HlT : Hid (T < w2.heap.size) := A.out.lT
  go_upto_region 5 with fail
  obtain ⟨w3, hw3⟩ : ∃ w3, w3 = w2.alloc (.cells (vo ⟨sv2, V.out⟩) 32) := ⟨_, rfl⟩
  rw [← hw3]
  have gg : Below w2.heap.size w2 w3 := by rw [hw3]; exact below1
  replace A := Lib.hid (A.out.keep gg)
  replace SK := Lib.hid (zac gg SK.out)
  have SV := Lib.hid (zac gg hv2)
  have B8 : Hid (w3.heap[w2.heap.size]? = some (.cells (vo ⟨sv2, V.out⟩) 32 (0, 0))) := by show _ = _; rw [hw3]; exact heap_alloc_last _ _
  obtain ⟨T8, hT8⟩ : ∃ n, n = w2.heap.size := ⟨_, rfl⟩
  rw [← hT8] at B8 ⊢
  have H8 : Hid (T8 ≠ T) := by
   show T8 ≠ T
   rw [hT8]; exact fun e => by have := HlT.out; omega
  clear gg hw3 hv2 hT8
  have zT := A.out.s.v.zT
  have zV := A.out.s.v.zV
  have zb := A.out.s.v.zb
  have z8 := zaf B8.out (zaz _)
  go_wp2_with fail
  refine (HOf.out sv2 _ A.out.s.l SV.out).mono ?_
  rintro e w4 ⟨vp, vm, rfl, hp, hm, gg⟩
  replace A := Lib.hid (A.out.keep gg)
  replace SK := Lib.hid (zac gg SK.out)
  replace SV := Lib.hid (zac gg SV.out)
  replace B8 := Lib.hid (zab gg B8.out)
  have HPp := Lib.hid hp
  have HMm := Lib.hid hm
  clear gg hp hm zT zV zb z8 HOf
  have zT := A.out.s.v.zT
  have zw := A.out.s.v.zw
  have HlQw4 := Lib.hid (And.intro A.out.lR A.out.lT)
  go_wp2_with fail
  refine (HPa.out vp vm _ A.out.s.l HPp.out HMm.out).mono ?_
  rintro e w5 ⟨vw, rfl, hw5, gg⟩
  obtain ⟨pw, cw, rfl⟩ := zz9 (zak hw5)
  replace A := Lib.hid (A.out.keep gg)
  replace SK := Lib.hid (zac gg SK.out)
  replace SV := Lib.hid (zac gg SV.out)
  replace B8 := Lib.hid (zab gg B8.out)
  have OW := Lib.hid hw5
  clear gg hw5 zT zw HPp HMm HPa
  have zw := A.out.s.v.zw
  have fw := A.out.s.fz 4
  go_upto_region 7 with fail
  have A7 := A.out.putW (s := ⟨pw, WW.length, cw⟩) OW.out HlQw4.out.1 HlQw4.out.2
  have SK7 := zci (s := ⟨pk, K.length, ck⟩) SK.out (z6y A.out.s.box SK.out) (zbl (T := T) (sv ⟨pw, WW.length, cw⟩) 4) (zba (sv ⟨pw, WW.length, cw⟩) 4)
  have SV7 := zci SV.out (z0t A.out.s.box SV.out) (zbl (T := T) (sv ⟨pw, WW.length, cw⟩) 4) (zba (sv ⟨pw, WW.length, cw⟩) 4)
  have B87 := (zba (W := w5) (T := T) (sv ⟨pw, WW.length, cw⟩) 4 T8 H8.out).trans B8.out
  rw [zat] at A7 SK7 SV7 B87
  obtain ⟨w7, hw7⟩ : ∃ w7, w7 = w5.setCell ⟨T, 4, none⟩ (.slice pw WW.length cw) := ⟨_, rfl⟩
  rw [← hw7] at A7 SK7 SV7 B87 ⊢
  replace A := Lib.hid A7
  replace SK := Lib.hid SK7
  replace SV := Lib.hid SV7
  replace B8 := Lib.hid B87
  clear A7 SK7 SV7 B87 hw7 zw fw OW HlQw4
  have hwB : T ≤ w7.heap.size := Nat.le_of_lt A.out.lT
  have G7 : Below w7.heap.size w7 w7.drew := zap (Below.refl _ _) 1
  have A8 := (A.out.keep G7).putK (s := ⟨pk, K.length, ck⟩) SK.out
  rw [zat] at A8
  have SV8 := zci (W := w7.drew) SV.out (z0t (A.out.keep G7).s.box SV.out) (zbl (T := T) (sv ⟨pk, K.length, ck⟩) 6) (zba (sv ⟨pk, K.length, ck⟩) 6)
  rw [zat] at SV8
  have fk := (A.out.keep G7).s.fz 6
  have zk := (A.out.keep G7).s.v.zk
  obtain ⟨w8, hw8⟩ : ∃ w8, w8 = w7.drew.setCell ⟨T, 6, none⟩ (.slice pk K.length ck) := ⟨_, rfl⟩
  rw [← hw8] at A8 SV8
  have wv := A8.s.wr 2 2 (by decide)
  have A9 := A8.putV (v := V) SV8
  obtain ⟨w9, hw9⟩ : ∃ w9, w9 = stA w8 (.pointer (some ⟨T, 2, none⟩)) (.agg (vo ⟨sv2, V.out⟩)) := ⟨_, rfl⟩
  rw [← hw9] at A9
  have HW8 := Lib.hid hw8
  have HW9 := Lib.hid hw9
  have HA9 := Lib.hid A9
  clear A8 A9 SV8 hw8 hw9
  refine zl2 T [] [1, 3, 5] (by kernel_rfl) ?_
  refine GX.take2 0 rfl rfl rfl (by kernel_rfl) (by kernel_rfl) (by kernel_rfl) rfl hwB ?_
  (first | go_big_quiet_step (fail) | quiet_step (fail)); refine wpQuiet_nil ?_
  refine GX.take2 2 rfl rfl rfl (by kernel_rfl) (by kernel_rfl) (by kernel_rfl) rfl hwB ?_
  (first | go_big_quiet_step (fail) | quiet_step (fail)); refine wpQuiet_nil ?_
  have y7 : ldA w7.drew (.pointer (some ⟨T8, 0, none⟩)) 2 = some (vo ⟨sv2, V.out⟩) := zaf B8.out (zaz _)
  have y8 : ldA w8 (.pointer (some ⟨T8, 0, none⟩)) 2 = some (vo ⟨sv2, V.out⟩) := by
   rw [HW8.out]
   exact zaf ((zba (W := w7.drew) (T := T) (.slice pk K.length ck) 6 T8 H8.out).trans B8.out) (zaz _)
  refine GX.branch2 1 3 (by kernel_rfl) ?x1 ?x3
  case' x1 =>
   refine zef rfl rfl rfl (.agg (vo ⟨sv2, V.out⟩)) w7.drew (by go_simp) (zcw (Below.refl _ _)) ?_
   simp only [Act.put, List.setIfInBounds_toArray, List.set_cons_zero, List.set_cons_succ]
   refine GX.branch1 3 (by kernel_rfl) ?_
   refine zg8 rfl rfl rfl w8 (by rw [HW8.out]; go_simp) (zcr (by kernel_rfl) (by rw [HW8.out]; exact (Below.refl _ _).setCell (p := ⟨T, 6, none⟩) (Nat.le_refl _) _)) ?_
   simp only [Act.put]
  case' x3 =>
   refine zg8 rfl rfl rfl w8 (by rw [HW8.out]; go_simp) (zcr (by kernel_rfl) (by rw [HW8.out]; exact (Below.refl _ _).setCell (p := ⟨T, 6, none⟩) (Nat.le_refl _) _)) ?_
   simp only [Act.put]
   refine GX.branch1 1 (by kernel_rfl) ?_
   refine zef rfl rfl rfl (.agg (vo ⟨sv2, V.out⟩)) w8 (by go_simp) (zcw (Below.refl _ _)) ?_
   simp only [Act.put, List.setIfInBounds_toArray, List.set_cons_zero, List.set_cons_succ]
  all_goals
   refine GX.take2 4 rfl rfl rfl (by kernel_rfl) (by kernel_rfl) (by kernel_rfl) rfl hwB ?_
   (first | go_big_quiet_step (fail) | quiet_step (fail)); refine wpQuiet_nil ?_
   refine GX.branch1 5 (by kernel_rfl) ?_
   refine zg8 rfl rfl rfl w9 (by rw [HW9.out]; go_simp) (zcr (by kernel_rfl) (by rw [HW9.out]; exact zav (Below.refl _ _) (Nat.le_refl _))) ?_
   simp only [Act.put]
   refine GX.nil (by kernel_rfl) ?_
   clear y7 y8
   replace A := Lib.hid HA9.out
   clear HA9 HW8 HW9 G7 fk zk wv hwB SV B8 H8 SK
   have zT := A.out.s.v.zT
   have zk := A.out.s.v.zk
   have zb := A.out.s.v.zb
   have zj := A.out.s.v.zj
   dsimp only at zT zk zb zj
   have HlQ := Lib.hid (And.intro A.out.lR A.out.lT)
   have l1 := A.out.s.l
   go_wp2_with fail
   refine (HMo.out _ _ l1.t l1.k l1.bal l1.j).mono ?_
   rintro e w10 ⟨vj, rfl, hj, gg⟩
   obtain ⟨pj, cj, rfl⟩ := zz9 (zak hj)
   replace A := Lib.hid (A.out.keep gg)
   have OJ := Lib.hid hj
   clear gg hj zT zk zb zj l1
   have zj := A.out.s.v.zj
   have fj := A.out.s.fz 7
   go_upto_region 9 with fail
   have A11 := A.out.putJ (s := ⟨pj, J.length, cj⟩) OJ.out HlQ.out.1 HlQ.out.2
   rw [zat] at A11
   obtain ⟨w11, hw11⟩ : ∃ w11, w11 = w10.setCell ⟨T, 7, none⟩ (.slice pj J.length cj) := ⟨_, rfl⟩
   rw [← hw11] at A11 ⊢
   replace A := Lib.hid A11
   clear A11 hw11 zj fj OJ HlQ
   have zT := A.out.s.v.zT
   have zk := A.out.s.v.zk
   have zb := A.out.s.v.zb
   have zj := A.out.s.v.zj
   have zf := A.out.s.v.zf
   dsimp only at zT zk zb zj zf
   have l1 := A.out.s.l
   go_wp2_with fail
   refine (HNx.out _ _ _ l1.t l1.k l1.bal l1.j).mono ?_
   rintro e w12 ⟨rfl, gg⟩
   replace A := Lib.hid (A.out.keep gg)
   clear gg zT zk zb zj zf l1
   have wf := A.out.s.wr 8 33 (by decide)
   go_upto_region 10 with fail
   have A13 := A.out.putFin F
   obtain ⟨w13, hw13⟩ : ∃ w13, w13 = stA w12 (.pointer (some ⟨T, 8, none⟩)) (.agg (cc F)) := ⟨_, rfl⟩
   rw [← hw13] at A13 ⊢
   replace A := Lib.hid A13
   clear A13 hw13 wf
   have z := A.out.s.v.z
   have wr := A.out.wrR
   go_wp2_with fail
   have E := A.out.ret 0
   rw [← HG.out] at E
   exact bodyPost_ret (zal Tryz.isAgg39 Tryz.sizeOf39 _ 4 5 rfl _ _ _ _ _ rfl rfl A.out.out) rfl E
 ·
  have HG : Hid (G = g) := HGe.out h0
  have t0 : ((R : Int) == 0) = false := by simp; omega
  have t0n : ((R : Int) != 0) = true := by simp; omega
  have t0' : decide (R = 0) = false := decide_eq_false h0
  have z := A.out.s.v.z
  have wr := A.out.wrR
  clear h0 HGe HGo
  go_wp2_with fail
  have E := A.out.ret R
  rw [HG.out]
  exact bodyPost_ret (zal Tryz.isAgg39 Tryz.sizeOf39 _ 4 5 rfl _ _ _ _ _ rfl rfl A.out.out) rfl E
theorem ysn {x : Aa} (h : beyA x = false) : x.slot.toNat ≤ 1099511627776 := by
 unfold beyA at h
 rw [decide_eq_false_iff_not] at h
 omega
theorem z1n {l : List Aa} {x : Aa} (h : mayA l = false ∨ beyA x = true) : zng l x = false := by
 unfold zng
 rcases h with h | h
 ·
  rw [h]; rfl
 ·
  unfold beyA at h
  rw [decide_eq_true_iff] at h
  rw [decide_eq_false (by omega), Bool.and_false]
theorem yb8 (p : Option Addr) (n cp : Nat) (l : List Aa) (x : Aa) (w : World) (h : SlE Eaa w (.slice p n cp) l) (hl : l.length = n) (hn : n ≤ 1000) :
  Calls Tryz.prog 94 #[.slice p n cp, .agg (aa x)] w (yht (putA l x) (putE l x) w) := by
 have HS := Lib.hid h
 have HL := Lib.hid hl
 have HN := Lib.hid hn
 obtain ⟨W0, hW0⟩ : ∃ W0, W0 = w.alloc (.cells (aa x) 62) := ⟨_, rfl⟩
 have HB : Hid (Below w.heap.size w W0) := by rw [hW0]; exact below1
 have M0 : Hid (W0.heap[w.heap.size]? = some (.cells (aa x) 62 (0, 0))) := by rw [hW0]; exact heap_alloc_last w _
 have HC := Lib.hid (z1o p n cp l W0 (zac HB.out h) hl (by omega))
 have HM := Lib.hid (fun W (g : Below w.heap.size w W) => zzz p n cp l W (zac g h) hl)
 have HI := Lib.hid (fun W => zvq x W)
 have HW := Lib.hid hW0
 obtain ⟨b, hb⟩ : ∃ b, b = mayA l := ⟨_, rfl⟩
 rw [← hb] at HM
 have HBb := Lib.hid hb.symm
 obtain ⟨y, hy⟩ : ∃ y, y = beyA x := ⟨_, rfl⟩
 rw [← hy] at HI
 have HY := Lib.hid hy.symm
 clear hW0 h hl hn hb hy
 go_enter Tryz.func94, Tryz.ntmps94
 go_upto_region 1 with fail
 rw [← HW.out]
 go_wp2_with fail
 refine HC.out.mono ?_
 rintro e w1 ⟨v1, rfl, ho, g1⟩
 have G1 := Lib.hid (zad HB.out g1)
 have M1 := Lib.hid (zab g1 M0.out)
 have O1 := Lib.hid (zbi ho HB.out.size)
 obtain ⟨p1, c1, rfl⟩ := zis ho HL.out
 clear ho g1
 go_wp2_with fail
 refine (HM.out w1 G1.out).mono ?_
 rintro e w2 ⟨rfl, g2⟩
 have G2 := Lib.hid (zad G1.out g2)
 have M2 := Lib.hid (zab g2 M1.out)
 have O2 := Lib.hid (zah g2 O1.out)
 clear g2
 cases b
 ·
  have hno := z1n (x := x) (.inl HBb.out)
  have HF : Hid (putA l x = l ∧ putE l x = 1) := ⟨by unfold putA; rw [if_neg (by rw [hno]; exact Bool.false_ne_true)], by unfold putE; rw [if_neg (by rw [hno]; exact Bool.false_ne_true)]⟩
  clear hno
  go_wp2_with fail
  go_ret2
  exact ⟨_, by rw [HF.out.2]; first | done | rfl, by rw [HF.out.1]; exact zak O2.out, G2.out⟩
 ·
  have z2 := zaf M2.out (zfg x)
  go_wp2_with fail
  refine (HI.out w2).mono ?_
  rintro e w3 ⟨rfl, g3⟩
  have G3 := Lib.hid (zad G2.out g3)
  have M3 := Lib.hid (zab g3 M2.out)
  have O3 := Lib.hid (zah g3 O2.out)
  clear g3 z2
  cases y
  ·
   have hyes : zng l x = true := by unfold zng; rw [HBb.out, decide_eq_true (ysn HY.out)]; rfl
   by_cases h6 : n = 6
   ·
    have HF : Hid (putA l x = l ∧ putE l x = 3) := ⟨by unfold putA; rw [if_pos hyes, if_pos (by rw [HL.out]; exact h6)], by unfold putE; rw [if_pos hyes, if_pos (by rw [HL.out]; exact h6)]⟩
    subst h6
    clear hyes
    go_wp2_with fail
    go_ret2
    exact ⟨_, by rw [HF.out.2]; first | done | rfl, by rw [HF.out.1]; exact zak O3.out, G3.out⟩
   ·
    have t1 : ((n : Int) == 6) = false := by rw [beq_eq_false_iff_ne]; omega
    have HF : Hid (putA l x = l ++ [x] ∧ putE l x = 0) := ⟨by unfold putA; rw [if_pos hyes, if_neg (by rw [HL.out]; exact h6)], by unfold putE; rw [if_pos hyes, if_neg (by rw [HL.out]; exact h6)]⟩
    have Z : Hid (w.heap.size ≤ w3.heap.size) := G3.out.size
    have z3 := zaf M3.out (zfg x)
    clear hyes h6
    go_wp2_with (at_builtin; go_loud (refine zbs Kaa _ rfl (.tmp 23) (.tmp 25) rfl w.heap.size _ l rfl (za6 O3.out _) _ [x] rfl (z3i _ x _ (by simp)) (by have := HL.out; have := HN.out; simp; omega) (by have := Z.out; simp; omega) ?_; intro v4 w4 ho4 hg4; have O4 := Lib.hid ho4; have G4 := Lib.hid (Gr.alloc hg4); clear ho4 hg4))
    go_ret2
    exact ⟨_, by rw [HF.out.2]; first | done | rfl, by rw [HF.out.1]; exact zak O4.out, G3.out.trans (G4.out.own O3.out Z.out)⟩
  ·
   have hno := z1n (l := l) (.inr HY.out)
   have HF : Hid (putA l x = l ∧ putE l x = 1) := ⟨by unfold putA; rw [if_neg (by rw [hno]; exact Bool.false_ne_true)], by unfold putE; rw [if_neg (by rw [hno]; exact Bool.false_ne_true)]⟩
   clear hno
   go_wp2_with fail
   go_ret2
   exact ⟨_, by rw [HF.out.2]; first | done | rfl, by rw [HF.out.1]; exact zak O3.out, G3.out⟩
theorem ys3 (v : Value) (l : List Aa) (x : Aa) (w : World) (h : SlE Eaa w v l) (hn : l.length ≤ 1000) :
  Calls Tryz.prog 94 #[v, .agg (aa x)] w (yht (putA l x) (putE l x) w) := by
 have k := h
 obtain ⟨p, cp, rfl, _⟩ := zaj h
 exact yb8 p _ cp l x w k rfl hn
end Go.Proofs.YtmihlihlpdkdcaaGreat
