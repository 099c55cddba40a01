import Derived.Test.YtmihlihlpdkdcaaGreatQ12
import Derived.Test.YtmihlihlpdkdcaaGreatQ26
import Derived.Test.YtmihlihlpdkdcaaGreatQ13
import Derived.Deep.Cut
import Derived.Deep.CutRange
import Derived.Deep.RegionLaw
import Derived.Test.YtmihlihlpdkdcaaGreatQ08
import Derived.Test.YtmihlihlpdkdcaaGreatQ20
import Derived.Test.YtmihlihlpdkdcaaGreatQ19
namespace Go.Proofs.YtmihlihlpdkdcaaGreat
open Go.RowKit
set_option maxRecDepth 200000
set_option maxHeartbeats 64000000
@[go_sem ↓] theorem yih (ρ : Operand → Value) (dst : Option Tmp) (x y : Operand) (ty : TypeId) (pos : String) (after : Array Edge) (guard : Option (Nat × Bool)) (w : World) (hx : okA 33 (ρ x) = true) (hy : okA 33 (ρ y) = true) :
  (execOp ρ { dst, op := .buildSlice 35 2 #[(0, x), (1, y)], type := ty, pos, after, guard }).run Tryz.prog w = .ok (.value (.slice (some ⟨w.heap.size, 0, none⟩) 2 2)) (w.alloc (.cells (zfz (ρ x) ++ zfz (ρ y)) 37)) := by
 obtain ⟨c, hc, hn⟩ := zx3 hx
 obtain ⟨d, hd, hm⟩ := zx3 hy
 have hp : (2 * 33 > 2 ^ 24) = False := by simp
 have h0 : (2 * 33 = 0) = False := by simp
 unfold execOp
 simp only [Instr.buildSlice, Sem.run_bind, run_underlying Tryz.underlying35, Result.andThen_ok, Tryz.sizeOf37, hp, h0, if_false, ztb, Value.cells]
 simp only [List.map_toArray, List.map_cons, List.map_nil, hc, hd, Instr.fill, Value.cells, hn, hm]
 simp only [Sem.run_pure, Result.andThen_ok]
 generalize hz : (Array.range (2 * 33)).map (fun x => (cc zcc)[x % (cc zcc).size]!) = z
 have hzs : z.size = 2 * 33 := by rw [← hz]; simp
 have h1 := zoh c 0 z
 have h2 := yur 33 z c d hzs hn hm
 simp only [Nat.zero_mul, Nat.one_mul, h1, h2, hzs]
 simp [zfz]
 rfl
theorem yfc (w : World) (x y : Ck) (b : Nat) (hb : b = w.heap.size) : SlE Ecc (w.alloc (.cells (cc x ++ cc y) 37)) (.slice (some ⟨b, 0, none⟩) 2 2) [x, y] :=
 ze9 w _ 2 _ _ b rfl hb (by simp [zan, Ecc, zb3])
theorem zxd (H : EngC) (HX : zsb) (x : En) (g : Eg) (kind : Int) (pr : Option Addr) (nr cr : Nat) (ra rb : Rt) (sl : UInt64) (l : List UInt8) (w : World) (h : LaidG w x g) (hr : SlE Ebyt w (.slice pr nr cr) l) (hl : l.length = nr) :
  Calls Tryz.prog 5 #[.agg (en x), .agg (cl ⟨kind, ⟨pr, nr, cr⟩, ra, rb, sl⟩)] w fun e w' => e = .returned (.bool true) ∧ Below w.heap.size w w' := by
 obtain ⟨W0, hW0⟩ : ∃ W0, W0 = ((w.alloc (.cells (en x) 39)).alloc (.cells (cl ⟨kind, ⟨pr, nr, cr⟩, ra, rb, sl⟩) 48)) := ⟨_, rfl⟩
 obtain ⟨hB, q0, q1, _⟩ := zd0 w _ _ _ _ W0 hW0
 have A : Hid (Gv w W0 w.heap.size x g) := ⟨q0, h.keep hB, hB⟩
 have M : Hid (W0.heap[w.heap.size + 1]? = some (.cells (cl ⟨kind, ⟨pr, nr, cr⟩, ra, rb, sl⟩) 48 (0, 0))) := q1
 have HW := Lib.hid hW0
 have KR := Lib.hid (zac hB hr)
 have LR := Lib.hid hl
 have HAw := Lib.hid (fun W => zfb H W)
 obtain ⟨f, hf⟩ : ∃ f, f = fewG g := ⟨_, rfl⟩
 have HFw := Lib.hid (fun W (hh : LaidG W x g) => ybc x g W hh)
 rw [← hf] at HFw
 have HFt : Hid (f = true → zbz g ∧ g.j.length ≤ 24) := fun e => zev (hf.symm.trans e)
 have HH := Lib.hid H
 clear hW0 hB q0 q1 h hf H hr hl
 go_enter Tryz.func5, Tryz.ntmps5
 go_upto_region 1 with fail
 rw [← HW.out]
 go_wp2_with fail
 refine (HAw.out _).mono ?_
 rintro e w1 ⟨rfl, g⟩
 replace A := Lib.hid (A.out.keep g)
 replace M := Lib.hid (zab g M.out)
 replace KR := Lib.hid (zac g KR.out)
 clear g
 have z := A.out.z
 go_wp2_with fail
 refine (HFw.out _ A.out.l).mono ?_
 rintro e w2 ⟨rfl, g⟩
 replace A := Lib.hid (A.out.keep g)
 replace M := Lib.hid (zab g M.out)
 replace KR := Lib.hid (zac g KR.out)
 clear g z
 cases f
 ·
  go_wp2_with fail
  go_ret
  exact ⟨rfl, A.out.g⟩
 ·
  obtain ⟨sm, sj⟩ := HFt.out rfl
  obtain ⟨m, hm⟩ : ∃ m, m = mayG g := ⟨_, rfl⟩
  have HMy := Lib.hid (fun W hh => HH.out.may x g W hh sm)
  rw [← hm] at HMy
  have HMt : Hid (m = true → MayS' g) := fun e => zdu.1 (hm.symm.trans e)
  have SM := Lib.hid sm
  have SJ := Lib.hid sj
  clear hm sm sj HFt HFw HAw
  have z := A.out.z
  go_wp2_with fail
  refine (HMy.out _ A.out.l).mono ?_
  rintro e w3 ⟨rfl, g⟩
  replace A := Lib.hid (A.out.keep g)
  replace M := Lib.hid (zab g M.out)
  replace KR := Lib.hid (zac g KR.out)
  clear g z
  cases m
  ·
   go_wp2_with fail
   go_ret
   exact ⟨rfl, A.out.g⟩
  ·
   have MS := Lib.hid (HMt.out rfl)
   clear HMt HMy
   have zr := zkn M.out
   dsimp only at zr
   rw [zat] at zr
   by_cases t200 : 200 < nr
   ·
    have t200i : decide (200 < (nr : Int)) = true := decide_eq_true (by omega)
    have t200i' : decide (200 < nr) = true := decide_eq_true (by omega)
    clear t200
    go_wp2_with fail
    go_ret
    exact ⟨rfl, A.out.g⟩
   ·
    have t200i : decide (200 < (nr : Int)) = false := decide_eq_false (by omega)
    have t200i' : decide (200 < nr) = false := decide_eq_false (by omega)
    have HDo := Lib.hid (fun W hh hs => HH.out.call x g ⟨kind, ⟨pr, nr, cr⟩, ra, rb, sl⟩ l W hh SM.out hs (by have := LR.out; omega))
    dsimp only at HDo
    obtain ⟨cmd, hcmd⟩ : ∃ c, c = zcd kind l := ⟨_, rfl⟩
    rw [← hcmd] at HDo
    have HCmd := Lib.hid hcmd
    have SD := Lib.hid (zn6 MS.out SJ.out cmd)
    have MD := Lib.hid (do_G MS.out cmd)
    clear t200 hcmd
    have z := A.out.z
    have zm := zaf M.out (zrj _)
    go_wp2_with fail
    refine (HDo.out _ A.out.l (by rw [zat]; exact KR.out)).mono ?_
    rintro e w4 ⟨x2, rfl, h2, g2⟩
    clear z zm zr
    have F := Lib.hid (zi6 (zad A.out.g g2) h2)
    replace A := Lib.hid (A.out.keep (zad g2 (below1 (o := .cells (en x2) 39))))
    replace M := Lib.hid (zab (zad g2 (below1 (o := .cells (en x2) 39))) M.out)
    replace KR := Lib.hid (zac (zad g2 (below1 (o := .cells (en x2) 39))) KR.out)
    clear g2 h2
    obtain ⟨f1, f2⟩ := z0b g cmd
    have hE0 : zfs g cmd ≠ 0 → doG g cmd = g := fun e => yer e
    have hTk : ysz cmd = decide (kind = 2) := by rw [HCmd.out]; exact ync
    have hMv : ydr cmd = true → kind ≠ 0 ∧ kind ≠ 3 := fun e => ydh (by rw [← HCmd.out]; exact e)
    obtain ⟨E, hE⟩ : ∃ E, E = zfs g cmd := ⟨_, rfl⟩
    obtain ⟨GG, hG⟩ : ∃ G, G = doG g cmd := ⟨_, rfl⟩
    rw [← hE, hTk] at f1
    rw [← hE] at hE0 ⊢
    rw [← hG] at F f1 f2 hE0
    have HF2 : Hid (GG.fin = g.fin ∨ (g.fin.epoch.toNat < GG.fin.epoch.toNat ∧ za7 g.t GG.fin g.fin = true ∧ kind ≠ 0 ∧ kind ≠ 3)) := f2.imp id fun q => ⟨q.1, q.2.1, hMv q.2.2⟩
    have HNw := Lib.hid (MS.out.now)
    clear f2 hMv hTk hE hG HDo SD MD HCmd HH
    obtain ⟨n, hn⟩ : ∃ n, n = g.now.toNat := ⟨_, rfl⟩
    have u1 : 0 ≤ (n : Int) + 1 := by omega
    have u2 : (n : Int) + 1 < 18446744073709551616 := by have := HNw.out; omega
    have zk := zdf M.out
    dsimp only at zk
    have zn := A.out.zn
    have zm := F.out.zn
    rw [← hn] at zn
    by_cases h0 : E = 0
    ·
     subst h0
     by_cases hk : kind = 2
     ·
      subst hk
      rw [if_pos ⟨rfl, rfl⟩] at f1
      have hm : (GG.now.toNat : Int) = (n : Int) + 1 := by rw [f1, yeh HNw.out, hn]; rfl
      rw [hm] at zm
      clear hm f1 hn hE0
      go_upto_region 8 with fail
      clear zk zn zm u1 u2
      have zf := F.out.zf
      have ze := A.out.zf
      by_cases hf : GG.fin = g.fin
      ·
       rw [hf] at zf
       clear hf
       go_wp2_with fail
       go_ret
       exact ⟨rfl, A.out.g⟩
      ·
       have tf : decide (GG.fin = g.fin) = false := decide_eq_false hf
       obtain ⟨q1, q2, q3, q4⟩ := HF2.out.resolve_left hf
       have HCh : Hid (zg3 g.t [g.fin, GG.fin] = true) := z04 q2
       have HAbv : Hid (zcj g.t (zay g.t g.fin.root) (zay g.t GG.fin.root) = true) := q2
       have te : decide ((g.fin.epoch.toNat : Int) < (GG.fin.epoch.toNat : Int)) = true := decide_eq_true (by omega)
       have te' : decide (g.fin.epoch.toNat < GG.fin.epoch.toNat) = true := decide_eq_true (by omega)
       clear q1 q2 q3 q4
       go_upto_region 11 with fail
       clear zf ze hf tf
       obtain ⟨W_X_, hWX⟩ : ∃ W, W = (w4.alloc (.cells (en x2) 39)).alloc (.cells (cc g.fin ++ cc GG.fin) 37) := ⟨_, rfl⟩
       rw [← hWX]
       have b1 : Below (w4.alloc (.cells (en x2) 39)).heap.size (w4.alloc (.cells (en x2) 39)) W_X_ := by rw [hWX]; exact below1
       have V2 : Hid (SlE Ecc W_X_ (.slice (some ⟨w4.heap.size + 1, 0, none⟩) 2 2) [g.fin, GG.fin]) := by show SlE _ _ _ _; rw [hWX]; exact yfc _ _ _ _ (by simp)
       replace A := Lib.hid (A.out.keep b1)
       replace M := Lib.hid (zab b1 M.out)
       replace KR := Lib.hid (zac b1 KR.out)
       replace F := Lib.hid (F.out.keep b1)
       clear hWX b1
       have zk := zdf M.out
       dsimp only at zk
       have ze1 := A.out.ze
       have ze2 := F.out.ze
       have zT := A.out.zT
       have zr1 := A.out.zr
       have zr2 := F.out.zr
       have HC2 := Lib.hid (fun u W h h2 => HX.chain x.t.n u g.t [g.fin, GG.fin] W h h2 SM.out.t (show (2 : Nat) ≤ 1000 by decide))
       rw [HCh.out] at HC2
       have HFa := Lib.hid (fun r W h => HX.find x.t.n g.t r W h)
       have HAa := Lib.hid (fun W h => HX.above x.t.n g.t (zay g.t g.fin.root) (zay g.t GG.fin.root) W h)
       rw [HAbv.out] at HAa
       have L0 := fun p : Wd W_X_.drew => za3 zk p
       have L1 := fun p : Wd W_X_.drew => za3 ze1 p
       have L2 := fun p : Wd W_X_.drew => za3 ze2 p
       have L3 := fun p : Wd W_X_.drew => zb8 zT (by decide) p
       have L4 := fun p : Wd W_X_.drew => zb8 zr1 (by decide) p
       have L5 := fun p : Wd W_X_.drew => zb8 zr2 (by decide) p
       clear zk ze1 ze2 zT zr1 zr2
       refine za4 [11, 13, 21, 27, 28] (by kernel_rfl) (by kernel_rfl) (by kernel_rfl) ?_
       repeat (first | (refine zae rfl rfl _ zag ?_; (first | go_big_quiet_step (fail) | quiet_step (fail)); refine wpQuiet_nil ?_) | refine zam rfl ?_)
       refine zau rfl rfl rfl zg4 #[.agg (tr ⟨x.t.n⟩), .slice (some ⟨w4.heap.size + 1, 0, none⟩) 2 2] rfl ?_
       refine (HC2.out _ _ (zac (zap (Below.refl _ _) 1) A.out.l.t) (zac (zap (Below.refl _ _) 1) V2.out)).mono ?_
       rintro e u ⟨rfl, g⟩
       refine ⟨_, rfl, g, ?_⟩
       simp only [Act.put, List.setIfInBounds_toArray, List.set_cons_zero, List.set_cons_succ]
       have GB : Hid (Below W_X_.heap.size W_X_ u) := zad (zap (Below.refl _ _) 1) g
       clear g
       repeat (first | (refine zae rfl rfl _ zag ?_; (first | go_big_quiet_step (fail) | quiet_step (fail)); refine wpQuiet_nil ?_) | refine zam rfl ?_)
       refine zgg rfl rfl (.bool true) _ rfl (Below.refl _ _) ?_
       simp only [Act.put, List.setIfInBounds_toArray, List.set_cons_zero, List.set_cons_succ]
       repeat (first | (refine zae rfl rfl _ zag ?_; (first | go_big_quiet_step (fail) | quiet_step (fail)); refine wpQuiet_nil ?_) | refine zam rfl ?_)
       refine zau rfl rfl rfl zb5 #[.agg (tr ⟨x.t.n⟩), .agg (rc g.fin.root)] rfl ?_
       refine (HFa.out _ _ (zac GB.out A.out.l.t)).mono ?_
       rintro e u ⟨rfl, g⟩
       refine ⟨_, rfl, g, ?_⟩
       simp only [Act.put, List.setIfInBounds_toArray, List.set_cons_zero, List.set_cons_succ]
       replace GB : Hid (Below W_X_.heap.size W_X_ u) := zad GB.out g
       clear g
       repeat (first | (refine zae rfl rfl _ zag ?_; (first | go_big_quiet_step (fail) | quiet_step (fail)); refine wpQuiet_nil ?_) | refine zam rfl ?_)
       refine zau rfl rfl rfl zb5 #[.agg (tr ⟨x.t.n⟩), .agg (rc GG.fin.root)] rfl ?_
       refine (HFa.out _ _ (zac GB.out A.out.l.t)).mono ?_
       rintro e u ⟨rfl, g⟩
       refine ⟨_, rfl, g, ?_⟩
       simp only [Act.put, List.setIfInBounds_toArray, List.set_cons_zero, List.set_cons_succ]
       replace GB : Hid (Below W_X_.heap.size W_X_ u) := zad GB.out g
       clear g
       repeat (first | (refine zae rfl rfl _ zag ?_; (first | go_big_quiet_step (fail) | quiet_step (fail)); refine wpQuiet_nil ?_) | refine zam rfl ?_)
       refine zau rfl rfl rfl zb0 #[.agg (tr ⟨x.t.n⟩), .int .i64 (zay g.t g.fin.root), .int .i64 (zay g.t GG.fin.root)] rfl ?_
       refine (HAa.out _ (zac GB.out A.out.l.t)).mono ?_
       rintro e u ⟨rfl, g⟩
       refine ⟨_, rfl, g, ?_⟩
       simp only [Act.put, List.setIfInBounds_toArray, List.set_cons_zero, List.set_cons_succ]
       replace GB : Hid (Below W_X_.heap.size W_X_ u) := zad GB.out g
       clear g
       repeat (first | (refine zae rfl rfl _ zag ?_; (first | go_big_quiet_step (fail) | quiet_step (fail)); refine wpQuiet_nil ?_) | refine zam rfl ?_)
       refine zbx ?_
       clear L0 L1 L2 L3 L4 L5
       replace A := Lib.hid (A.out.keep GB.out)
       replace M := Lib.hid (zab GB.out M.out)
       replace KR := Lib.hid (zac GB.out KR.out)
       replace F := Lib.hid (F.out.keep GB.out)
       replace V2 := Lib.hid (zac GB.out V2.out)
       clear GB
       obtain ⟨w5, rfl⟩ : ∃ W : World, W = u := ⟨_, rfl⟩
       go_wp2_with fail
       go_ret
       exact ⟨rfl, A.out.g⟩
     ·
      rw [if_neg (fun q => hk (of_decide_eq_true q.2))] at f1
      rw [f1, ← hn] at zm
      have t2 : decide (kind = 2) = false := decide_eq_false hk
      have t2' : (kind == 2) = false := by rw [beq_eq_false_iff_ne]; exact hk
      have t2n : (kind != 2) = true := by rw [bne_iff_ne]; exact hk
      clear f1 hn hk hE0
      go_upto_region 8 with fail
      clear zk zn zm u1 u2
      have zf := F.out.zf
      have ze := A.out.zf
      by_cases hf : GG.fin = g.fin
      ·
       rw [hf] at zf
       clear hf
       go_wp2_with fail
       go_ret
       exact ⟨rfl, A.out.g⟩
      ·
       have tf : decide (GG.fin = g.fin) = false := decide_eq_false hf
       obtain ⟨q1, q2, q3, q4⟩ := HF2.out.resolve_left hf
       have HCh : Hid (zg3 g.t [g.fin, GG.fin] = true) := z04 q2
       have HAbv : Hid (zcj g.t (zay g.t g.fin.root) (zay g.t GG.fin.root) = true) := q2
       have t3 : decide (kind = 3) = false := decide_eq_false q4
       have t3' : (kind == 3) = false := by rw [beq_eq_false_iff_ne]; exact q4
       have t3n : (kind != 3) = true := by rw [bne_iff_ne]; exact q4
       have t0k : decide (kind = 0) = false := decide_eq_false q3
       have t0k' : (kind == 0) = false := by rw [beq_eq_false_iff_ne]; exact q3
       have t0kn : (kind != 0) = true := by rw [bne_iff_ne]; exact q3
       have te : decide ((g.fin.epoch.toNat : Int) < (GG.fin.epoch.toNat : Int)) = true := decide_eq_true (by omega)
       have te' : decide (g.fin.epoch.toNat < GG.fin.epoch.toNat) = true := decide_eq_true (by omega)
       clear q1 q2 q3 q4
       go_upto_region 11 with fail
       clear zf ze hf tf
       obtain ⟨W_X_, hWX⟩ : ∃ W, W = (w4.alloc (.cells (en x2) 39)).alloc (.cells (cc g.fin ++ cc GG.fin) 37) := ⟨_, rfl⟩
       rw [← hWX]
       have b1 : Below (w4.alloc (.cells (en x2) 39)).heap.size (w4.alloc (.cells (en x2) 39)) W_X_ := by rw [hWX]; exact below1
       have V2 : Hid (SlE Ecc W_X_ (.slice (some ⟨w4.heap.size + 1, 0, none⟩) 2 2) [g.fin, GG.fin]) := by show SlE _ _ _ _; rw [hWX]; exact yfc _ _ _ _ (by simp)
       replace A := Lib.hid (A.out.keep b1)
       replace M := Lib.hid (zab b1 M.out)
       replace KR := Lib.hid (zac b1 KR.out)
       replace F := Lib.hid (F.out.keep b1)
       clear hWX b1
       have zk := zdf M.out
       dsimp only at zk
       have ze1 := A.out.ze
       have ze2 := F.out.ze
       have zT := A.out.zT
       have zr1 := A.out.zr
       have zr2 := F.out.zr
       have HC2 := Lib.hid (fun u W h h2 => HX.chain x.t.n u g.t [g.fin, GG.fin] W h h2 SM.out.t (show (2 : Nat) ≤ 1000 by decide))
       rw [HCh.out] at HC2
       have HFa := Lib.hid (fun r W h => HX.find x.t.n g.t r W h)
       have HAa := Lib.hid (fun W h => HX.above x.t.n g.t (zay g.t g.fin.root) (zay g.t GG.fin.root) W h)
       rw [HAbv.out] at HAa
       have L0 := fun p : Wd W_X_.drew => za3 zk p
       have L1 := fun p : Wd W_X_.drew => za3 ze1 p
       have L2 := fun p : Wd W_X_.drew => za3 ze2 p
       have L3 := fun p : Wd W_X_.drew => zb8 zT (by decide) p
       have L4 := fun p : Wd W_X_.drew => zb8 zr1 (by decide) p
       have L5 := fun p : Wd W_X_.drew => zb8 zr2 (by decide) p
       clear zk ze1 ze2 zT zr1 zr2
       refine za4 [11, 13, 21, 27, 28] (by kernel_rfl) (by kernel_rfl) (by kernel_rfl) ?_
       repeat (first | (refine zae rfl rfl _ zag ?_; (first | go_big_quiet_step (fail) | quiet_step (fail)); refine wpQuiet_nil ?_) | refine zam rfl ?_)
       refine zau rfl rfl rfl zg4 #[.agg (tr ⟨x.t.n⟩), .slice (some ⟨w4.heap.size + 1, 0, none⟩) 2 2] rfl ?_
       refine (HC2.out _ _ (zac (zap (Below.refl _ _) 1) A.out.l.t) (zac (zap (Below.refl _ _) 1) V2.out)).mono ?_
       rintro e u ⟨rfl, g⟩
       refine ⟨_, rfl, g, ?_⟩
       simp only [Act.put, List.setIfInBounds_toArray, List.set_cons_zero, List.set_cons_succ]
       have GB : Hid (Below W_X_.heap.size W_X_ u) := zad (zap (Below.refl _ _) 1) g
       clear g
       repeat (first | (refine zae rfl rfl _ zag ?_; (first | go_big_quiet_step (fail) | quiet_step (fail)); refine wpQuiet_nil ?_) | refine zam rfl ?_)
       refine zgg rfl rfl (.bool true) _ rfl (Below.refl _ _) ?_
       simp only [Act.put, List.setIfInBounds_toArray, List.set_cons_zero, List.set_cons_succ]
       repeat (first | (refine zae rfl rfl _ zag ?_; (first | go_big_quiet_step (fail) | quiet_step (fail)); refine wpQuiet_nil ?_) | refine zam rfl ?_)
       refine zau rfl rfl rfl zb5 #[.agg (tr ⟨x.t.n⟩), .agg (rc g.fin.root)] rfl ?_
       refine (HFa.out _ _ (zac GB.out A.out.l.t)).mono ?_
       rintro e u ⟨rfl, g⟩
       refine ⟨_, rfl, g, ?_⟩
       simp only [Act.put, List.setIfInBounds_toArray, List.set_cons_zero, List.set_cons_succ]
       replace GB : Hid (Below W_X_.heap.size W_X_ u) := zad GB.out g
       clear g
       repeat (first | (refine zae rfl rfl _ zag ?_; (first | go_big_quiet_step (fail) | quiet_step (fail)); refine wpQuiet_nil ?_) | refine zam rfl ?_)
       refine zau rfl rfl rfl zb5 #[.agg (tr ⟨x.t.n⟩), .agg (rc GG.fin.root)] rfl ?_
       refine (HFa.out _ _ (zac GB.out A.out.l.t)).mono ?_
       rintro e u ⟨rfl, g⟩
       refine ⟨_, rfl, g, ?_⟩
       simp only [Act.put, List.setIfInBounds_toArray, List.set_cons_zero, List.set_cons_succ]
       replace GB : Hid (Below W_X_.heap.size W_X_ u) := zad GB.out g
       clear g
       repeat (first | (refine zae rfl rfl _ zag ?_; (first | go_big_quiet_step (fail) | quiet_step (fail)); refine wpQuiet_nil ?_) | refine zam rfl ?_)
       refine zau rfl rfl rfl zb0 #[.agg (tr ⟨x.t.n⟩), .int .i64 (zay g.t g.fin.root), .int .i64 (zay g.t GG.fin.root)] rfl ?_
       refine (HAa.out _ (zac GB.out A.out.l.t)).mono ?_
       rintro e u ⟨rfl, g⟩
       refine ⟨_, rfl, g, ?_⟩
       simp only [Act.put, List.setIfInBounds_toArray, List.set_cons_zero, List.set_cons_succ]
       replace GB : Hid (Below W_X_.heap.size W_X_ u) := zad GB.out g
       clear g
       repeat (first | (refine zae rfl rfl _ zag ?_; (first | go_big_quiet_step (fail) | quiet_step (fail)); refine wpQuiet_nil ?_) | refine zam rfl ?_)
       refine zbx ?_
       clear L0 L1 L2 L3 L4 L5
       replace A := Lib.hid (A.out.keep GB.out)
       replace M := Lib.hid (zab GB.out M.out)
       replace KR := Lib.hid (zac GB.out KR.out)
       replace F := Lib.hid (F.out.keep GB.out)
       replace V2 := Lib.hid (zac GB.out V2.out)
       clear GB
       obtain ⟨w5, rfl⟩ : ∃ W : World, W = u := ⟨_, rfl⟩
       go_wp2_with fail
       go_ret
       exact ⟨rfl, A.out.g⟩
    ·
     have e1 := hE0 h0
     rw [if_neg (fun q => h0 q.1)] at f1
     rw [f1, ← hn] at zm
     have t0 : ((E : Int) == 0) = false := by rw [beq_eq_false_iff_ne]; omega
     have t0' : (E == 0) = false := by rw [beq_eq_false_iff_ne]; exact h0
     have t0'' : decide (E = 0) = false := decide_eq_false h0
     have t0n : ((E : Int) != 0) = true := by rw [bne_iff_ne]; omega
     have t0n' : (E != 0) = true := by rw [bne_iff_ne]; exact h0
     have zf := F.out.zf
     have ze := A.out.zf
     rw [e1] at zf
     clear f1 hn hE0 e1
     go_wp2_with fail
     go_ret
     exact ⟨rfl, A.out.g⟩
theorem engineFinalL (H : EngC) (HX : zsb) (x : En) (g : Eg) (c : Cl) (l : List UInt8) (w : World) (h : LaidG w x g) (hr : SlE Ebyt w (sv c.raw) l) :
  Calls Tryz.prog 5 #[.agg (en x), .agg (cl c)] w fun e w' => e = .returned (.bool true) ∧ Below w.heap.size w w' := by
 obtain ⟨kind, ⟨pr, nr, cr⟩, ra, rb, sl⟩ := c
 have hl := zck hr
 dsimp only at hl hr
 rw [zat] at hr
 exact zxd H HX x g kind pr nr cr ra rb sl l w h hr hl
section
variable {l : List Nd} {cs : List Ck}
theorem z4g {a b c : Ck} (h : za7 l a b = true) (k : za7 l a c = true) : orB l b c = true := by
 obtain ⟨i, m, hm, e1, e2, hi, hk, ha⟩ := zc9 h
 obtain ⟨i', m', _, f1, f2, hi', hk', ha'⟩ := zc9 k
 have em : m' = m := by omega
 subst em
 unfold orB
 rw [Bool.or_eq_true]
 rcases z3s hm m' hk ha ha' with x | x
 ·
  exact .inr (zjj hm e1 f1 hi hi' x)
 ·
  exact .inl (zjj hm f1 e1 hi' hi x)
def zqg (l : List Nd) (cs : List Ck) (j : Nat) (L : Ck) : Prop := (∃ i, i < j ∧ ckAt cs i = L) ∧ (∀ i, i < j → ckAt cs i = L ∨ za7 l L (ckAt cs i) = true) ∧ ∀ i, i < j → ∀ k, k < i → orB l (ckAt cs i) (ckAt cs k) = true
theorem yhb : zqg l cs 1 (ckAt cs 0) := ⟨⟨0, Nat.one_pos, rfl⟩, fun i hi => .inl (by rw [show i = 0 by omega]), fun i hi k hk => by omega⟩
theorem zrx {j : Nat} {L : Ck} (h : zqg l cs j L) (hp : ∀ k, k < j → orB l (ckAt cs j) (ckAt cs k) = true) : ∀ i, i < j + 1 → ∀ k, k < i → orB l (ckAt cs i) (ckAt cs k) = true := fun i hi k hk => by
 rcases Nat.lt_succ_iff_lt_or_eq.1 hi with hi | rfl
 ·
  exact h.2.2 i hi k hk
 ·
  exact hp k hk
theorem yjy {j : Nat} {L : Ck} (h : zqg l cs j L) (hb : za7 l (ckAt cs j) L = true) : zqg l cs (j + 1) (ckAt cs j) := by
 have hd : ∀ i, i < j → za7 l (ckAt cs j) (ckAt cs i) = true := fun i hi => by
  rcases h.2.1 i hi with e | e
  ·
   rw [e]; exact hb
  ·
   exact zjk hb e
 refine ⟨⟨j, Nat.lt_succ_self j, rfl⟩, fun i hi => ?_, zrx h fun k hk => by unfold orB; rw [hd k hk]; rfl⟩
 rcases Nat.lt_succ_iff_lt_or_eq.1 hi with hi | rfl
 ·
  exact .inr (hd i hi)
 ·
  exact .inl rfl
theorem z8z {j : Nat} {L : Ck} (h : zqg l cs j L) (hb : za7 l L (ckAt cs j) = true) : zqg l cs (j + 1) L := by
 obtain ⟨i0, hi0, e0⟩ := h.1
 refine ⟨⟨i0, by omega, e0⟩, fun i hi => ?_, zrx h fun k hk => ?_⟩
 ·
  rcases Nat.lt_succ_iff_lt_or_eq.1 hi with hi | rfl
  ·
   exact h.2.1 i hi
  ·
   exact .inr hb
 ·
  rcases h.2.1 k hk with e | e
  ·
   rw [e]; unfold orB; rw [hb, Bool.or_true]
  ·
   exact z4g hb e
theorem yln {j : Nat} {L : Ck} (h : zqg l cs j L) (hj : j < cs.length) (h1 : za7 l (ckAt cs j) L = false) (h2 : za7 l L (ckAt cs j) = false) : zg3 l cs = false := by
 rw [← Bool.not_eq_true]
 intro hc
 obtain ⟨i0, hi0, e0⟩ := h.1
 have := (zkw.1 hc).2 j hj i0 hi0
 rw [e0] at this
 unfold orB at this
 rw [h1, h2] at this
 cases this
theorem yeg {L : Ck} (hm : MayT l) (h : zqg l cs cs.length L) : zg3 l cs = true := zkw.2 ⟨hm, h.2.2⟩
theorem z82 (hm : MayT l) : zg3 l [] = true := zkw.2 ⟨hm, fun i hi => by simp at hi⟩
theorem yjt (hm : ¬ MayT l) : zg3 l cs = false := by
 rw [← Bool.not_eq_true]
 exact fun h => hm (zkw.1 h).1
theorem yd4 {n i : Nat} : ckAt (cs.drop n) i = ckAt cs (n + i) := by
 unfold ckAt
 rw [List.getD_eq_getElem?_getD, List.getD_eq_getElem?_getD, List.getElem?_drop]
end
open Go.RowKit
structure Chv (w W : World) (s : SlV) (R : Nat) (o : Ck) : Prop where
 t : W.heap[w.heap.size]? = some (.cells (tr ⟨s⟩) 28 (0, 0))
 o : W.heap[R]? = some (.cells (cc o) 37 (0, 0))
 g : Below w.heap.size w W
 R : w.heap.size < R
section
variable {w W W' : World} {s : SlV} {o : Ck} {R : Nat}
theorem Chv.keep (h : Chv w W s R o) (g : Below W.heap.size W W') : Chv w W' s R o := ⟨zab g h.t, zab g h.o, zad h.g g, h.R⟩
theorem Chv.put (h : Chv w W s R o) (c : Ck) : Chv w (stA W (.pointer (some ⟨R, 0, none⟩)) (.agg (cc c))) s R c :=
 have := h.R
 ⟨(zc0 (by omega)).trans h.t, zmw h.o, zav h.g (by omega), h.R⟩
end
theorem z3e (s : SlV) (p : Option Addr) (n cp : Nat) (l : List Nd) (cs : List Ck) (w : World) (h : SlE Ene w (sv s) l) (h3 : SlE Ecc w (.slice p n cp) cs) (hl : cs.length = n) (hj : n ≤ 1000) :
  Calls Tryz.prog 19 #[.agg (tr ⟨s⟩), .slice p n cp] w fun e w' => e = .returned (.bool (zg3 l cs)) ∧ Below w.heap.size w w' := by
 have HBh := Lib.hid (fun c d W (g : Below w.heap.size w W) => zph s l c d W (zac g h))
 have HMy := Lib.hid (fun W (g : Below w.heap.size w W) => ziy s l W (zac g h))
 obtain ⟨r, hr⟩ : ∃ r, r = zg3 l cs := ⟨_, rfl⟩
 rw [← hr]
 have HR := Lib.hid hr
 have HL := Lib.hid hl
 have HN := Lib.hid hj
 have K := Lib.hid h3
 obtain ⟨W0, hW0⟩ : ∃ W0, W0 = w.alloc (.cells (tr ⟨s⟩) 28) := ⟨_, rfl⟩
 have HB : Hid (Below w.heap.size w W0) := by rw [hW0]; exact below1
 have T0 : Hid (W0.heap[w.heap.size]? = some (.cells (tr ⟨s⟩) 28 (0, 0))) := by rw [hW0]; exact heap_alloc_last w _
 have HW := Lib.hid hW0
 have z0 := (za2 T0.out).2.1
 by_cases hm : MayT l
 ·
  rw [decide_eq_true hm] at HMy
  have HM := Lib.hid hm
  clear hW0 h h3 hr hl hj hm
  go_enter Tryz.func19, Tryz.ntmps19
  go_upto_region 1 with fail
  rw [← HW.out]
  go_wp2_with fail
  refine (HMy.out W0 HB.out).mono ?_
  rintro e w1 ⟨rfl, g⟩
  have G1 := Lib.hid (zad HB.out g)
  replace T0 := Lib.hid (zab g T0.out)
  clear g z0 HW HB
  by_cases h0 : n = 0
  ·
   subst h0
   have hF : Hid (r = true) := by
    show r = true
    rw [HR.out, show cs = [] from List.length_eq_zero_iff.1 HL.out]
    exact z82 HM.out
   go_wp2_with fail
   go_ret
   exact ⟨by rw [hF.out]; rfl, G1.out⟩
  ·
   have t0 : ((n : Int) == 0) = false := beq_eq_false_iff_ne.2 (by omega)
   have t0' : (n == 0) = false := beq_eq_false_iff_ne.2 h0
   have i0 : (0 : Int) < (n : Int) := by omega
   have HN0 : Hid (0 < n) := by show 0 < n; omega
   obtain ⟨b1, o1, rfl, q1, x1⟩ := zim K.out (by have := HL.out; omega)
   have X1 := Lib.hid x1
   have y1 := Go.Proofs.YtmihlihlpdkdcaaGreat.keep G1.out (zkh x1 (i := 0) (by have := HL.out; omega))
   rw [Nat.zero_mul, Nat.add_zero] at y1
   have hcap : n ≤ cp := by obtain ⟨_, _, e, hh⟩ := zaj K.out; injection e with _ e2 e3; omega
   have HTop : Hid (zqg l cs 1 (ckAt cs 0)) := yhb
   obtain ⟨vr, hc1, hc2⟩ := yfj (E := Ecc) (some ⟨b1, o1, none⟩) cp cs 1 (by rw [HL.out]; omega) (by rw [HL.out]; exact hcap)
   rw [HL.out] at hc1 hc2
   obtain ⟨pr, cr, rfl⟩ := zl3 (n := n - 1) (hc2 w K.out) (by rw [List.length_drop, HL.out])
   have HCu := Lib.hid (hc2 w K.out)
   have hc1' : zze 33 (.slice (some ⟨b1, o1, none⟩) n cp) (.int .i64 1) = some (.slice pr (n - 1) cr) := hc1
   clear hc1
   generalize ckAt cs 0 = C0 at *
   clear x1 q1 hcap hc2 h0 HMy
   go_upto_region 6 with fail
   obtain ⟨W2, hW2⟩ : ∃ W2, W2 = w1.alloc (.cells (cc C0) 37) := ⟨_, rfl⟩
   rw [← hW2]
   have hR1 : w.heap.size < w1.heap.size := (Array.getElem?_eq_some_iff.1 T0.out).1
   have D : Hid (Chv w W2 s w1.heap.size C0) := ⟨by rw [hW2]; exact zab below1 T0.out, by rw [hW2]; exact heap_alloc_last w1 _, by rw [hW2]; exact zad G1.out below1, hR1⟩
   generalize w1.heap.size = R at *
   clear hW2 y1 hR1 T0 G1
   go_wp2_with fail
   go_loopw [20] (fun i wr => ∃ (j : Nat) (o : Ck), j + 1 ≤ n ∧ i = .int .i64 (j : Int) ∧ zqg l cs (j + 1) o ∧ Chv w wr s R o) (fun i _ => n - (intOf i).toNat)
   case atStart => exact ⟨0, C0, HN0.out, rfl, HTop.out, D.out⟩
   case round =>
    obtain ⟨j, o, hj, rfl, hb, hD⟩ := hrel
    have HTp := Lib.hid hb
    replace D := Lib.hid hD
    clear hb hD
    by_cases hlt : j + 1 < n
    ·
     have j0 : (0 : Int) ≤ (j : Int) := by omega
     have j1 : (j : Int) < ((n - 1 : Nat) : Int) := by omega
     have u1 : (j : Int) + 1 < 10000 := by have := HN.out; omega
     have d0 : decide ((j : Int) < ((n - 1 : Nat) : Int)) = true := decide_eq_true j1
     have d0' : decide (j < n - 1) = true := decide_eq_true (by omega)
     have HLT := Lib.hid hlt
     obtain ⟨b2, o2, rfl, _, x2⟩ := zim (zac D.out.g HCu.out) (by rw [List.length_drop, HL.out]; omega)
     have y2 := zkh x2 (i := j) (by rw [List.length_drop, HL.out]; omega)
     rw [yd4, Nat.add_comm 1 j] at y2
     have HUp : Hid (za7 l (ckAt cs (j + 1)) o = true → zqg l cs (j + 1 + 1) (ckAt cs (j + 1))) := fun e => yjy HTp.out e
     have HSy : Hid (za7 l o (ckAt cs (j + 1)) = true → zqg l cs (j + 1 + 1) o) := fun e => z8z HTp.out e
     have HNo : Hid (za7 l (ckAt cs (j + 1)) o = false → za7 l o (ckAt cs (j + 1)) = false → r = false) := fun e1 e2 => by rw [HR.out]; exact yln HTp.out (by rw [HL.out]; exact hlt) e1 e2
     generalize ckAt cs (j + 1) = C at *
     have HB1 := Lib.hid (HBh.out C o)
     have HB2 := Lib.hid (HBh.out o C)
     generalize za7 l C o = a at *
     generalize za7 l o C = b at *
     clear x2 hlt hj
     go_upto_region 9 with fail
     obtain ⟨W5, hW5⟩ : ∃ W5, W5 = wr.alloc (.cells (cc C) 37) := ⟨_, rfl⟩
     rw [← hW5]
     have hz5 : W5.heap[wr.heap.size]? = some (.cells (cc C) 37 (0, 0)) := by rw [hW5]; exact heap_alloc_last wr _
     replace D := Lib.hid (D.out.keep (W' := W5) (by rw [hW5]; exact below1))
     have C5 := Lib.hid hz5
     obtain ⟨Q, hQ⟩ : ∃ Q, Q = wr.heap.size := ⟨_, rfl⟩
     rw [← hQ] at C5 hz5 ⊢
     clear hW5 y2 hQ
     have z0 := (za2 D.out.t).2.1
     have z1 := (ck_v D.out.o).a
     have z2 := (ck_v hz5).a
     clear hz5
     go_wp2_with fail
     refine (HB1.out _ D.out.g).mono ?_
     rintro e u ⟨rfl, g⟩
     replace D := Lib.hid (D.out.keep g)
     replace C5 := Lib.hid (zab g C5.out)
     clear g z0 z1 z2
     have z0 := (za2 D.out.t).2.1
     have z1 := (ck_v D.out.o).a
     have z2 := (ck_v C5.out).a
     have z3 := za8 D.out.o (za1 _)
     cases a
     ·
      go_wp2_with fail
      refine (HB2.out _ D.out.g).mono ?_
      rintro e u2 ⟨rfl, g⟩
      replace D := Lib.hid (D.out.keep g)
      clear g z0 z1 z2 z3
      cases b
      ·
       go_wp2_with fail
       go_ret
       exact ⟨by rw [show r = false from by have := HNo.out; simpa using this]; rfl, D.out.g⟩
      ·
       go_wp2_with fail
       go_roundw
       case rel => exact ⟨j + 1, o, HLT.out, by go_num, (by have := HSy.out; simpa using this), D.out⟩
       case measure => simp [intOf]; have := HLT.out; omega
     ·
      go_wp2_with fail
      go_roundw
      case rel => exact ⟨j + 1, C, HLT.out, by go_num, (by have := HUp.out; simpa using this), D.out.put C⟩
      case measure => simp [intOf]; have := HLT.out; omega
    ·
     have HJ : Hid (j + 1 = n) := by show _ = _; omega
     have d0 : decide ((j : Int) < ((n - 1 : Nat) : Int)) = false := decide_eq_false (by omega)
     have d0' : decide (j < n - 1) = false := decide_eq_false (by omega)
     have hF : Hid (r = true) := by
      show r = true
      rw [HR.out]
      refine yeg (L := o) HM.out ?_
      rw [HL.out, ← HJ.out]
      exact HTp.out
     clear hlt hj
     go_wp2_with fail
     go_ret
     exact ⟨by rw [hF.out]; rfl, D.out.g⟩
 ·
  rw [decide_eq_false hm] at HMy
  have hF : Hid (r = false) := by show r = false; rw [hr]; exact yjt hm
  clear hW0 h h3 hr hl hj hm
  go_enter Tryz.func19, Tryz.ntmps19
  go_upto_region 1 with fail
  rw [← HW.out]
  go_wp2_with fail
  refine (HMy.out W0 HB.out).mono ?_
  rintro e w1 ⟨rfl, g⟩
  have G1 := Lib.hid (zad HB.out g)
  clear g z0
  go_wp2_with fail
  go_ret
  exact ⟨by rw [hF.out]; rfl, G1.out⟩
theorem yg6 (s : SlV) (v : Value) (l : List Nd) (cs : List Ck) (w : World) (h : SlE Ene w (sv s) l) (h3 : SlE Ecc w v cs) (hj : cs.length ≤ 1000) :
  Calls Tryz.prog 19 #[.agg (tr ⟨s⟩), v] w fun e w' => e = .returned (.bool (zg3 l cs)) ∧ Below w.heap.size w w' := by
 have k := h3
 obtain ⟨p, cp, rfl, _⟩ := zaj h3
 exact z3e s p _ cp l cs w h k rfl hj
theorem beside17F : zsb where
 find := zfk
 above := zh2
 chain := fun s v l cs w h h3 _ hj => yg6 s v l cs w h h3 hj
end Go.Proofs.YtmihlihlpdkdcaaGreat
