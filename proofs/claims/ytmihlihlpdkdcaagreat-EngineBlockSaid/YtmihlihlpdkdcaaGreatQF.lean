import Derived.Test.YtmihlihlpdkdcaaGreatQ12
import Derived.Test.YtmihlihlpdkdcaaGreatQ13
import Derived.Deep.Cut
import Derived.Deep.CutRange
import Derived.Deep.RegionLaw
import Derived.Test.YtmihlihlpdkdcaaGreatQ20
import Derived.Test.YtmihlihlpdkdcaaGreatQ11
namespace Go.Proofs.YtmihlihlpdkdcaaGreat
open Go.RowKit
set_option maxRecDepth 200000
set_option maxHeartbeats 64000000
theorem zyz (H : EngC) (HX : zsl) (x : En) (g : Eg) (b : Bk) (w : World) (h : LaidG w x g) :
  Calls Tryz.prog 9 #[.agg (en x), .agg (bk b)] w fun e w' => e = .returned (.bool true) ∧ Below w.heap.size w w' := by
 obtain ⟨W0, hW0⟩ : ∃ W0, W0 = ((w.alloc (.cells (en x) 39)).alloc (.cells (bk b) 69)) := ⟨_, rfl⟩
 obtain ⟨hB, q0, q1, _⟩ := zd0 w _ _ _ _ W0 hW0
 have A : Hid (Gv w W0 w.heap.size x g) := ⟨q0, h.keep hB, hB⟩
 have M : Hid (W0.heap[w.heap.size + 1]? = some (.cells (bk b) 69 (0, 0))) := q1
 have HW := Lib.hid hW0
 have HAw := Lib.hid (fun W => zfb H W)
 obtain ⟨f, hf⟩ : ∃ f, f = fewG g := ⟨_, rfl⟩
 have HFw := Lib.hid (fun W (hh : LaidG W x g) => ybc x g W hh)
 rw [← hf] at HFw
 have HFt : Hid (f = true → zbz g ∧ g.j.length ≤ 24) := fun e => zev (hf.symm.trans e)
 have HH := Lib.hid H
 clear hW0 hB q0 q1 h hf H
 go_enter Tryz.func9, Tryz.ntmps9
 go_upto_region 1 with fail
 rw [← HW.out]
 go_wp2_with fail
 refine (HAw.out _).mono ?_
 rintro e w1 ⟨rfl, g⟩
 replace A := Lib.hid (A.out.keep g)
 replace M := Lib.hid (zab g M.out)
 clear g
 have z := A.out.z
 go_wp2_with fail
 refine (HFw.out _ A.out.l).mono ?_
 rintro e w2 ⟨rfl, g⟩
 replace A := Lib.hid (A.out.keep g)
 replace M := Lib.hid (zab g M.out)
 clear g z
 cases f
 ·
  go_wp2_with fail
  go_ret
  exact ⟨rfl, A.out.g⟩
 ·
  obtain ⟨sm, sj⟩ := HFt.out rfl
  obtain ⟨m, hm⟩ : ∃ m, m = mayG g := ⟨_, rfl⟩
  have HMy := Lib.hid (fun W hh => HH.out.may x g W hh sm)
  rw [← hm] at HMy
  have HMt : Hid (m = true → MayS' g) := fun e => zdu.1 (hm.symm.trans e)
  have SM := Lib.hid sm
  have SJ := Lib.hid sj
  clear hm sm sj HFt HFw HAw
  have z := A.out.z
  go_wp2_with fail
  refine (HMy.out _ A.out.l).mono ?_
  rintro e w3 ⟨rfl, g⟩
  replace A := Lib.hid (A.out.keep g)
  replace M := Lib.hid (zab g M.out)
  clear g z
  cases m
  ·
   go_wp2_with fail
   go_ret
   exact ⟨rfl, A.out.g⟩
  ·
   have MS := Lib.hid (HMt.out rfl)
   clear HMt HMy
   have HBl := Lib.hid (fun W hh => HH.out.block x g b W hh SM.out)
   have MG := Lib.hid (yp5 MS.out b)
   have SG := Lib.hid (zub MG.out (by have := z7g MS.out (.block b); have h2 : (doG g (.block b)).j = (blkG g b).j := rfl; rw [h2] at this; have := SJ.out; omega))
   obtain ⟨E, hE⟩ : ∃ E, E = ze6 g b := ⟨_, rfl⟩
   rw [← hE] at HBl
   have HEr : Hid (E ≠ 0 → blkG g b = g) := fun e => yhl (by rw [← hE]; exact e)
   have HLw : Hid (E = 0 → _) := fun e => z0d MS.out (hE.symm.trans e)
   clear hE
   obtain ⟨G, hG⟩ : ∃ G, G = blkG g b := ⟨_, rfl⟩
   rw [← hG] at HBl MG SG HEr HLw
   clear hG
   have HB2 := Lib.hid (fun y W hh => HH.out.block y G b W hh SG.out)
   have HSf := Lib.hid (fun y W hh hh2 => HH.out.same y x G g W hh hh2 SG.out SM.out)
   clear HH
   have z := A.out.z
   have zm := zaf M.out (zhr _)
   go_wp2_with fail
   refine (HBl.out _ A.out.l).mono ?_
   rintro e w4 ⟨x2, rfl, h2, g2⟩
   clear z zm
   have F := Lib.hid (zi6 (zad A.out.g g2) h2)
   replace A := Lib.hid (A.out.keep (zad g2 (below1 (o := .cells (en x2) 39))))
   replace M := Lib.hid (zab (zad g2 (below1 (o := .cells (en x2) 39))) M.out)
   clear g2 h2
   by_cases h0 : E = 0
   ·
    subst h0
    obtain ⟨k1, k2, k3, k4, k5, k6, k7⟩ := HLw.out rfl
    rw [k2] at HB2
    have zf := F.out.z
    have zm := zaf M.out (zhr _)
    go_wp2_with fail
    refine (HB2.out _ _ F.out.l).mono ?_
    rintro e w5 ⟨x3, rfl, h3, g3⟩
    clear zf zm
    have F3 := Lib.hid (zi6 (zad A.out.g g3) h3)
    replace A := Lib.hid (A.out.keep (zad g3 (below1 (o := .cells (en x3) 39))))
    replace M := Lib.hid (zab (zad g3 (below1 (o := .cells (en x3) 39))) M.out)
    replace F := Lib.hid (F.out.keep (zad g3 (below1 (o := .cells (en x3) 39))))
    clear g3 h3
    obtain ⟨⟨pe, ne, ce⟩, hse⟩ : ∃ s : SlV, s = x.t.n := ⟨_, rfl⟩
    have HSe := Lib.hid hse
    have hne := zck A.out.l.t
    rw [← hse] at hne
    have HNe : Hid (g.t.length = ne) := hne
    clear hse hne
    obtain ⟨⟨pt, nt, ct⟩, hst⟩ : ∃ s : SlV, s = x2.t.n := ⟨_, rfl⟩
    have HSt := Lib.hid hst
    have hnt := zck F.out.l.t
    rw [← hst] at hnt
    have HNt : Hid (G.t.length = nt) := hnt
    clear hst hnt
    obtain ⟨⟨pw, nw, cw⟩, hsw⟩ : ∃ s : SlV, s = x2.w := ⟨_, rfl⟩
    have HSw := Lib.hid hsw
    have hnw := zck F.out.l.w
    rw [← hsw] at hnw
    have HNw : Hid (G.w.length = nw) := hnw
    clear hsw hnw
    rw [HNe.out] at k3 k4 k5 k6 k7
    rw [HNt.out] at k3
    rw [HNw.out] at k4
    subst k3 k4
    have HSe := HSe
    have u1 : (ne : Int) + 1 < 10000 := by have := SM.out.t; have := HNe.out; omega
    obtain ⟨bw, ow, hpw, _, qw⟩ := zcz (by have := F.out.l.w; rw [← HSw.out, zat] at this; exact this) (by rw [HNw.out]; omega)
    subst hpw
    have yw := zca qw (i := ne) (by rw [HNw.out]; omega)
    rw [k5] at yw
    clear qw
    have ze := A.out.zt
    rw [← HSe.out, zat] at ze
    go_upto_region 10 with fail
    clear ze
    generalize w5.alloc (.cells (en x3) 39) = W_X_ at *
    have zt := F.out.zt
    rw [← HSt.out, zat] at zt
    have zw := F.out.zw
    rw [← HSw.out, zat] at zw
    have zs := zl8 M.out
    have zn := A.out.zn
    have zT := F.out.zT
    have zr := F.out.zr
    have t1 : decide ((b.slot.toNat : Int) ≤ (g.now.toNat : Int)) = true := decide_eq_true (by omega)
    have t1' : decide (b.slot.toNat ≤ g.now.toNat) = true := decide_eq_true (by omega)
    have i0 : (0 : Int) ≤ (ne : Int) := by omega
    have i1 : (ne : Int) < ((ne + 1 : Nat) : Int) := by omega
    have i1n : (ne : Int) < (ne : Int) + 1 := by omega
    have e1 : ((ne + 1 : Nat) : Int) = (ne : Int) + 1 := by omega
    have HKi := Lib.hid (fun W hh => HX.kids x2.t.n G.t (ne : Int) W hh)
    rw [show zut G.t (ne : Int) = [] by unfold zut; rw [k6]; rfl] at HKi
    have HFi := Lib.hid (fun W hh => HX.find x2.t.n G.t G.fin.root W hh)
    have HAb := Lib.hid (fun W hh => HX.above x2.t.n G.t (zay G.t G.fin.root) (ne : Int) W hh)
    rw [k7] at HAb
    clear k1 k2 k5 k6 k7
    have L0 := fun p : Wd W_X_.drew => za3 zs p
    have L1 := fun p : Wd W_X_.drew => za3 zn p
    have L2 := fun p : Wd W_X_.drew => za3 zt p
    have L3 := fun p : Wd W_X_.drew => za3 zw p
    have L4 := fun p : Wd W_X_.drew => za3 yw p
    have L5 := fun p : Wd W_X_.drew => zb8 zT (by decide) p
    have L6 := fun p : Wd W_X_.drew => zb8 zr (by decide) p
    clear zs zn zt zw yw zT zr
    refine za4 [38, 42, 50, 52] (by kernel_rfl) (by kernel_rfl) (by kernel_rfl) ?_
    repeat (first | (refine zae rfl rfl _ zag ?_; (first | go_big_quiet_step (fail) | quiet_step (fail)); refine wpQuiet_nil ?_) | refine zam rfl ?_)
    refine zau rfl rfl rfl zor #[.agg (tr ⟨x2.t.n⟩), .int .i64 (ne : Int)] rfl ?_
    refine (HKi.out _ (zac (zap (Below.refl _ _) 1) F.out.l.t)).mono ?_
    rintro e u ⟨vk, rfl, hk, g⟩
    refine ⟨_, rfl, g, ?_⟩
    simp only [Act.put, List.setIfInBounds_toArray, List.set_cons_zero, List.set_cons_succ]
    have GB : Hid (Below W_X_.heap.size W_X_ u) := zad (zap (Below.refl _ _) 1) g
    obtain ⟨pf, cf, rfl⟩ := zl3 (zak hk) (n := 0) rfl
    clear hk
    clear g
    repeat (first | (refine zae rfl rfl _ zag ?_; (first | go_big_quiet_step (fail) | quiet_step (fail)); refine wpQuiet_nil ?_) | refine zam rfl ?_)
    refine zgg rfl rfl (.bool true) _ rfl (Below.refl _ _) ?_
    simp only [Act.put, List.setIfInBounds_toArray, List.set_cons_zero, List.set_cons_succ]
    repeat (first | (refine zae rfl rfl _ zag ?_; (first | go_big_quiet_step (fail) | quiet_step (fail)); refine wpQuiet_nil ?_) | refine zam rfl ?_)
    refine zau rfl rfl rfl zb5 #[.agg (tr ⟨x2.t.n⟩), .agg (rc G.fin.root)] rfl ?_
    refine (HFi.out _ (zac GB.out F.out.l.t)).mono ?_
    rintro e u ⟨rfl, g⟩
    refine ⟨_, rfl, g, ?_⟩
    simp only [Act.put, List.setIfInBounds_toArray, List.set_cons_zero, List.set_cons_succ]
    replace GB : Hid (Below W_X_.heap.size W_X_ u) := zad GB.out g
    clear g
    repeat (first | (refine zae rfl rfl _ zag ?_; (first | go_big_quiet_step (fail) | quiet_step (fail)); refine wpQuiet_nil ?_) | refine zam rfl ?_)
    refine zau rfl rfl rfl zb0 #[.agg (tr ⟨x2.t.n⟩), .int .i64 (zay G.t G.fin.root), .int .i64 (ne : Int)] rfl ?_
    refine (HAb.out _ (zac GB.out F.out.l.t)).mono ?_
    rintro e u ⟨rfl, g⟩
    refine ⟨_, rfl, g, ?_⟩
    simp only [Act.put, List.setIfInBounds_toArray, List.set_cons_zero, List.set_cons_succ]
    replace GB : Hid (Below W_X_.heap.size W_X_ u) := zad GB.out g
    clear g
    repeat (first | (refine zae rfl rfl _ zag ?_; (first | go_big_quiet_step (fail) | quiet_step (fail)); refine wpQuiet_nil ?_) | refine zam rfl ?_)
    refine zbx ?_
    clear L0 L1 L2 L3 L4 L5 L6
    replace A := Lib.hid (A.out.keep GB.out)
    replace M := Lib.hid (zab GB.out M.out)
    replace F := Lib.hid (F.out.keep GB.out)
    replace F3 := Lib.hid (F3.out.keep GB.out)
    clear GB
    obtain ⟨w6, rfl⟩ : ∃ W : World, W = u := ⟨_, rfl⟩
    go_wp2_with fail
    go_ret
    exact ⟨rfl, A.out.g⟩
   ·
    have e1 := HEr.out h0
    rw [decide_eq_true e1] at HSf
    have t0 : ((E : Int) == 0) = false := by rw [beq_eq_false_iff_ne]; omega
    have t0' : (E == 0) = false := by rw [beq_eq_false_iff_ne]; exact h0
    have t0'' : decide (E = 0) = false := decide_eq_false h0
    have t0n : ((E : Int) != 0) = true := by rw [bne_iff_ne]; omega
    have t0n' : (E != 0) = true := by rw [bne_iff_ne]; exact h0
    clear e1
    have z := A.out.z
    have zf := F.out.z
    go_wp2_with fail
    refine (HSf.out _ _ F.out.l A.out.l).mono ?_
    rintro e w5 ⟨rfl, g⟩
    replace A := Lib.hid (A.out.keep g)
    replace M := Lib.hid (zab g M.out)
    replace F := Lib.hid (F.out.keep g)
    clear g z zf
    go_wp2_with fail
    go_ret
    exact ⟨rfl, A.out.g⟩
theorem engineBlockL (H : EngC) (HX : zsl) (x : En) (g : Eg) (b : Bk) (w : World) (h : LaidG w x g) :
  Calls Tryz.prog 9 #[.agg (en x), .agg (bk b)] w fun e w' => e = .returned (.bool true) ∧ Below w.heap.size w w' := by
 exact zyz H HX x g b w h
theorem yna (s : SlV) (l : List Nd) (i : Int) (w : World) (h : SlE Ene w (sv s) l) :
  Calls Tryz.prog 29 #[.agg (tr ⟨s⟩), .int .i64 i] w (ynt (zut l i) w) := by
 have HP := Lib.hid (fun W (g : Below w.heap.size w W) => zgy s l i W (zac g h))
 have HL := Lib.hid (zdm h)
 obtain ⟨p, n, cp⟩ := s
 dsimp only at HL
 obtain ⟨a, ha⟩ : ∃ a, a = isT l i := ⟨_, rfl⟩
 rw [← ha] at HP
 obtain ⟨W0, hW0⟩ : ∃ W0, W0 = w.alloc (.cells (tr ⟨⟨p, n, cp⟩⟩) 28) := ⟨_, rfl⟩
 have HB : Hid (Below w.heap.size w W0) := by rw [hW0]; exact below1
 have M0 : Hid (W0.heap[w.heap.size]? = some (.cells (tr ⟨⟨p, n, cp⟩⟩) 28 (0, 0))) := by rw [hW0]; exact heap_alloc_last w _
 have HS := Lib.hid h
 have HW := Lib.hid hW0
 have HA := Lib.hid ha
 clear hW0 h ha
 cases a
 ·
  have HE : Hid (zut l i = []) := yho HA.out.symm
  go_enter Tryz.func29, Tryz.ntmps29
  go_wp2_with fail
  rw [← HW.out]
  refine (HP.out W0 HB.out).mono ?_
  rintro e w1 ⟨rfl, g1⟩
  have G1 := Lib.hid (zad HB.out g1)
  clear g1
  go_wp2_with fail
  go_ret
  exact ⟨_, rfl, by rw [HE.out]; exact zbv _ _ _, G1.out⟩
 ·
  obtain ⟨hm, hi0, hi1⟩ := ziz.1 HA.out.symm
  obtain ⟨i', rfl⟩ : ∃ i' : Nat, i = i' := ⟨i.toNat, by omega⟩
  have HE : Hid (zut l (i' : Int) = zf7 l i' n) := by show _ = _; rw [yfq hm (by omega), HL.out]
  have HN : Hid (n ≤ 12) := by show n ≤ 12; have := hm.le; have := HL.out; omega
  obtain ⟨b1, o1, rfl, q1, x1⟩ := zf4 HS.out hm.pos
  clear hi0 hi1 HA hm
  go_enter Tryz.func29, Tryz.ntmps29
  go_wp2_with fail
  rw [← HW.out]
  refine (HP.out W0 HB.out).mono ?_
  rintro e w1 ⟨rfl, g1⟩
  have G1 := Lib.hid (zad HB.out g1)
  have M1 := Lib.hid (zab g1 M0.out)
  have X1 := Lib.hid (zhd G1.out x1)
  obtain ⟨z0, z1, zl⟩ := za2 M1.out
  dsimp only at z0
  rw [zat] at z0
  clear g1 x1 q1
  go_wp2_with fail
  go_loopw [5, 15] (fun v i wr => ∃ j : Nat, j ≤ n ∧ i = .int .i64 (j : Int) ∧ OwnE Eint wr w1.heap.size v (zf7 l i' j) ∧ Below w1.heap.size w1 wr) (fun _ i _ => n - (intOf i).toNat)
  case atStart => exact ⟨0, Nat.zero_le _, rfl, zbv _ _ _, Below.refl _ _⟩
  case round =>
   obtain ⟨j, hj, rfl, hown, hb⟩ := hrel
   have HO := Lib.hid hown
   have HBB := Lib.hid hb
   obtain ⟨z0, z1, zl⟩ := za2 (zab hb M1.out)
   dsimp only at z0
   rw [zat] at z0
   clear hown hb
   by_cases hlt : j < n
   ·
    have i0 : (0 : Int) ≤ (j : Int) := by omega
    have i1 : (j : Int) < (n : Int) := by omega
    have u1 : (j : Int) + 1 < 10000 := by have := HN.out; omega
    have y1 := keep HBB.out (show ldA w1 (.pointer (some ⟨b1, o1 + j * 35, none⟩)) 35 = some (ne (nd l j)) from zwp X1.out (by have := HL.out; omega))
    have HXn : Hid (∃ x, x = nd l j) := ⟨_, rfl⟩
    obtain ⟨x, hx⟩ := HXn.out
    rw [← hx] at y1
    have HXx := Lib.hid hx
    clear HXn hx
    by_cases he : x.parent = (i' : Int)
    ·
     have t1 : (x.parent == (i' : Int)) = true := by simpa using he
     have HE2 : Hid (zf7 l i' (j + 1) = zf7 l i' j ++ [(j : Int)]) := yaw (by rw [← HXx.out]; exact he)
     have HLn := Lib.hid (z9w l i' j)
     clear he
     go_wp2_with (at_builtin; refine zbs Kint _ rfl (.tmp 24) (.tmp 26) rfl w1.heap.size _ (zf7 l i' j) rfl (za6 (za6 HO.out _) _) _ [(j : Int)] rfl (ze9 _ [(j : Int)] 1 _ _ _ rfl (by simp) rfl) (by have := HLn.out; have := HN.out; simp; omega) (by have := HBB.out.size; simp; omega) ?_; intro v2 w2 ho2 hg2)
     go_roundw
     case rel => exact ⟨j + 1, by omega, by go_num, by rw [HE2.out]; exact ho2, (zad HBB.out (zad below1 below1)).trans (hg2.own (za6 (za6 HO.out _) _) (by have := HBB.out.size; simp; omega))⟩
     case measure => simp [intOf]; omega
    ·
     have t1 : (x.parent == (i' : Int)) = false := by simpa using he
     have HE2 : Hid (zf7 l i' (j + 1) = zf7 l i' j) := yek (by rw [← HXx.out]; exact he)
     clear he
     go_wp2_with fail
     go_roundw
     case rel => exact ⟨j + 1, by omega, by go_num, by rw [HE2.out]; exact za6 HO.out _, zad HBB.out below1⟩
     case measure => simp [intOf]; omega
   ·
    obtain rfl : j = n := by omega
    clear hlt
    go_wp2_with fail
    go_ret
    exact ⟨_, rfl, by rw [HE.out]; exact zbi HO.out G1.out.size, zad G1.out HBB.out⟩
theorem beside17B : zsl where
 find := zfk
 above := zh2
 kids := yna
end Go.Proofs.YtmihlihlpdkdcaaGreat
